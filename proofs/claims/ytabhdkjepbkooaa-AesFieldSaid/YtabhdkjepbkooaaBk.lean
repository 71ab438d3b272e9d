/- The reference's Xor; its Times. -/
import Derived.Test.YtabhdkjepbkooaaBh
import Derived.Test.YtabhdkjepbkooaaKt
set_option linter.unusedVariables false
set_option linter.unusedSimpArgs false
namespace Go.Proofs.Ytabhdkjepbkooaa
open Go.RowKit

/-- one by one -/
def xorL (xs ys : List (BitVec 8)) : List (BitVec 8) := List.zipWith (· ^^^ ·) xs ys
theorem xorL_length (xs ys : List (BitVec 8)) (h : xs.length ≤ ys.length) : (xorL xs ys).length = xs.length := by simp [xorL]; omega
theorem xorL_add (xs ys : List (BitVec 8)) (h : xs.length = 16) (h' : ys.length = 16) : xorL xs ys = addV xs ys := by
  refine List.ext_getElem (by rw [xorL_length _ _ (by omega), addV_length, h]) fun i h1 h2 => ?_
  have hi : i < 16 := by rw [addV_length] at h2; exact h2
  simp [xorL, addV, st16, List.getD_eq_getElem?_getD, List.getElem?_eq_getElem (show i < xs.length by omega), List.getElem?_eq_getElem (show i < ys.length by omega)]
theorem xorL_get (xs ys : List (BitVec 8)) (k : Nat) (x y : BitVec 8) (hx : xs[k]? = some x) (hy : ys[k]? = some y) : (xorL xs ys)[k]? = some (x ^^^ y) := by
  rw [xorL, List.getElem?_zipWith, hx, hy]
set_option maxRecDepth 100000 in
set_option maxHeartbeats 1600000 in
theorem rxor_any (w : World) (B : Nat) (A1 : Option Addr) (n c1 : Nat) (xs : List (BitVec 8)) (h1 : SlV w B A1 n c1 (xs.map W8)) (A2 : Option Addr) (n2 c2 : Nat) (ys : List (BitVec 8)) (h2 : SlV w B A2 n2 c2 (ys.map W8)) (hB : B ≤ w.heap.size) (hn : n ≤ n2) (hn9 : n ≤ 1000000) :
    Calls Try.prog 33 #[.slice A1 n c1, .slice A2 n2 c2] w fun e w' => e = .returned (.slice (some ⟨w.heap.size, 0, none⟩) n n) ∧ RowV 5 w' w.heap.size ((xorL xs ys).map W8) ∧ Below w.heap.size w w' := by
  have l1 : xs.length = n := by simpa using h1.len.symm
  have l2 : ys.length = n2 := by simpa using h2.len.symm
  obtain ⟨g, hg⟩ : ∃ g, w.heap.size = g := ⟨_, rfl⟩
  obtain ⟨R, hR⟩ : ∃ R, xorL xs ys = R := ⟨_, rfl⟩
  have hRl : R.length = n := by rw [← hR, xorL_length _ _ (by omega), l1]
  have hRk : ∀ k x y, xs[k]? = some x → ys[k]? = some y → R[k]? = some (x ^^^ y) := fun k x y hx hy => by rw [← hR]; exact xorL_get xs ys k x y hx hy
  rw [hR]
  have i1 : (n : Int) ≤ 1000000 := by omega
  have HG := Lib.hid hg
  have HS1 := Lib.hid h1
  have HS2 := Lib.hid h2
  have HRL := Lib.hid hRl
  have HRK := Lib.hid hRk
  have HL := Lib.hid (And.intro l1 l2)
  have HBG := Lib.hid (show B ≤ g by omega)
  clear hR hRl hRk h1 h2 l1 l2
  go_enter Try.func33, Try.ntmps33
  go_wp2_with (at_make; refine wlv_make Try.elem8 rfl _ rfl _ n rfl rfl (by omega) ?_; intro w1 hr1 hb1 hz1; rw [hg] at hr1 hb1)
  clear hg hz1
  go_loopw [6] (fun i wr => ∃ k : Nat, k ≤ n ∧ i = .int .i64 (k : Int) ∧ RowV 5 wr g ((R.take k ++ List.replicate (R.length - k) 0).map W8) ∧ Below g w wr) (fun i _ => n - (intOf i).toNat)
  case atStart => exact ⟨0, by omega, rfl, by rw [fill_zero, HRL.out, List.map_replicate]; exact hr1, hb1⟩
  case round =>
    clear hr1 hb1
    obtain ⟨k, hk, rfl, hr, hb⟩ := hrel
    by_cases hkn : k = n
    · subst hkn
      rw [fill_all _ _ _ HRL.out.symm] at hr
      have HR := Lib.hid hr
      have HBB := Lib.hid hb
      clear hr hb
      go_wp2
      go_ret
      rw [HG.out]
      exact ⟨rfl, HR.out, HBB.out⟩
    · have hki : (k : Int) < n := by omega
      have hki2 : (k : Int) < n2 := by omega
      obtain ⟨b1, o1, v1, rfl, hb1, hv1, hc1⟩ := (HS1.out.below (hb.mono HBG.out)).at_ (k := k) (by omega)
      obtain ⟨b2, o2, v2, rfl, hb2, hv2, hc2⟩ := (HS2.out.below (hb.mono HBG.out)).at_ (k := k) (by omega)
      rw [List.getElem?_map, Option.map_eq_some_iff] at hv1 hv2
      obtain ⟨x, hx, rfl⟩ := hv1
      obtain ⟨y, hy, rfl⟩ := hv2
      have hRk := HRK.out k x y hx hy
      have hcl : wr.cell? ⟨g, k, none⟩ = some (.int .u8 0) := hr.at_ (by rw [List.getElem?_map, fill_get _ _ _ (by have := HRL.out; omega)]; rfl)
      have hfz := hr.frozen k
      have hr2 := hr.set k (W8 (x ^^^ y))
      rw [← List.map_set, fill_set _ _ _ _ hRk] at hr2
      have hB2 := below_setV hb (Nat.le_refl g) k (W8 (x ^^^ y))
      have hxo := b8_xor x y
      have HR2 := Lib.hid hr2
      have HB2 := Lib.hid hB2
      clear hr2 hB2 hr hb hx hy hRk hb1 hb2
      go_wp2
      go_region
      go_wp2
      go_roundw
      case rel => exact ⟨k + 1, by omega, by go_num, HR2.out, HB2.out.drew⟩
      case measure => simp [intOf]; omega
end Go.Proofs.Ytabhdkjepbkooaa
