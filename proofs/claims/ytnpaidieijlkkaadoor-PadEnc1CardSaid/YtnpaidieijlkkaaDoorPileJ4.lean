/- Parts of one proof, joined: LimbA, LimbB, Shelf, LimbC, LimbD, Iter, RangeR, RangeP, Hr, Hs, Ht, Hu, PdA, Box. -/
import Derived.Test.YtnpaidieijlkkaaDoorPileJ3
import Derived.Shelf.Small.Bits
import Derived.Shelf.Small.Wraps
import Derived.Shelf.Strconv.Itoa0
import Derived.Shelf.Bits.Mul64
import Derived.Test.YtnpaidieijlkkaaDoorProg
import Derived.RangeFuncNested
import Derived.RangeFuncBound
import Derived.RangeFuncCalls
import Derived.RangeFuncLeaves
import Derived.RangeFuncBox
import Derived.Shelf.Abstract
import Derived.Shelf.RegionOpen
import Derived.OwnWalkIn
import Derived.TacticsInMore
import Derived.LoopNIn
import Derived.LoopIn
import Derived.StillTailTactics
import Derived.Lib.SliceRun
import Derived.Deep.RegionHeld3
import Derived.Test.YtnpaidieijlkkaaDoorPileJ1

/- limb.addTo. -/
namespace Go.Proofs.YtnpaidieijlkkaaDoor
open Go.RowKit

/-- the slice from off on, of length n, within block g -/
def RetAdd (w : World) (g off n : Nat) (zs : List Nat) (v : Nat) (e : Ending) (w' : World) : Prop :=
  ∃ c zs', e = .returned (.int .u64 ((c : Nat) : Int)) ∧ c ≤ 1 ∧ Row w' g zs' ∧ Only w w' g ∧ w'.heap.size = w.heap.size ∧ zs'.length = zs.length ∧ Dg b64 zs' ∧
    (∀ t, t < off ∨ off + n ≤ t → zs'[t]? = zs[t]?) ∧ V b64 zs' + b64 ^ (off + n) * c = V b64 zs + b64 ^ off * v

set_option maxRecDepth 100000 in
set_option maxHeartbeats 800000 in
theorem addTo_any (w : World) (g off nz cz : Nat) (zs : List Nat) (hr : Row w g zs) (B : Nat) (A : Option Addr) (n c : Nat) (ys : List Nat) (hs : Sl w B A n c ys) (hB : B ≤ g)
    (hfit : off + n ≤ zs.length) (hnz : n ≤ nz) (hd : Dg b64 zs) (hd2 : Dg b64 ys) :
    Calls Tryd.prog 141 #[.slice (some ⟨g, off, none⟩) nz cz, .slice A n c] w fun e w' => RetAdd w g off n zs (V b64 ys) e w' := by
  have hlc := hs.cap
  have hm := hs.max
  have hgs : g < w.heap.size := hr.lt
  go_enter Tryd.func141, Tryd.ntmps141
  go_wp2
  go_loopw [5, 10] (fun cv i wr => ∃ k c zs', k ≤ n ∧ i = .int .i64 (k : Nat) ∧ cv = .int .u64 ((c : Nat) : Int) ∧ c ≤ 1 ∧ Row wr g zs' ∧ Only w wr g ∧ wr.heap.size = w.heap.size ∧ zs'.length = zs.length ∧ Dg b64 zs' ∧
    (∀ t, t < off ∨ off + n ≤ t → zs'[t]? = zs[t]?) ∧ V b64 zs' + b64 ^ (off + k) * c = V b64 zs + b64 ^ off * V b64 (ys.take k)) (fun _ i _ => n - (intOf i).toNat)
  case atStart => exact ⟨0, 0, zs, Nat.zero_le _, rfl, rfl, by omega, hr, Only.refl _ _, rfl, rfl, hd, fun _ _ => rfl, by simp [V]⟩
  case round =>
    obtain ⟨k, c', zs', hk, rfl, rfl, hc1, hr', ho, hz, hzl, hdz, hzz, hv⟩ := hrel
    have HZ := Lib.hid hz
    have HZL := Lib.hid hzl
    have HV := Lib.hid hv
    have HZZ := Lib.hid hzz
    clear hz hzl hv hzz
    by_cases hlt : k < n
    · have hsr := hs.below (ho.below hB (by omega))
      have hf := hr'.frozen
      have hki : (k : Int) < n := by omega
      obtain ⟨b, off', y, rfl, hb, hy, hc⟩ := hsr.at_ hlt
      have hyl := hd2.get hy
      have HY := Lib.hid hy
      clear hy
      obtain ⟨old, hold⟩ := get_lt (zs := zs') (k := off + k) (by rw [HZL.out]; omega)
      have hcy := hr'.at_ hold
      have hol := hdz.get hold
      have HO := Lib.hid hold
      clear hold
      have hkz : (k : Int) < nz := by omega
      go_wp2_with (with_reducible show wpList _ _ _ _ _ _; refine wl_add64 (o := ⟨some 24, _, _, _, _, _⟩) rfl _ _ _ rfl old y c' rfl rfl rfl hol hyl hc1 ?_; intro s c2 hs1 hs2 hs3; have HS := Lib.hid hs1; have HS2 := Lib.hid hs2; clear hs1 hs2)
      go_roundw
      case rel => exact ⟨k + 1, c2, zs'.set (off + k) s, by omega, by go_num, by go_num, hs3, hr'.set _ _, ho.set _ _, by simpa [World.setCell] using HZ.out, by simp [HZL.out], hdz.set _ HS2.out, fun t ht => by rw [List.getElem?_set_ne (by omega)]; exact HZZ.out t ht, addTo_step HO.out HY.out HV.out HS.out⟩
      case measure => simp [intOf]; omega
    · obtain rfl : k = n := by omega
      go_wp2
      go_ret
      have hv := HV.out
      rw [List.take_of_length_le (by rw [← hs.len]; omega)] at hv
      exact ⟨c', zs', rfl, hc1, hr', ho, HZ.out, HZL.out, hdz, HZZ.out, hv⟩
end Go.Proofs.YtnpaidieijlkkaaDoor

/- limb.Norm, Of, Add. -/
namespace Go.Proofs.YtnpaidieijlkkaaDoor
open Go.RowKit

set_option maxRecDepth 100000 in
set_option maxHeartbeats 800000 in
theorem norm_any (w : World) (B : Nat) (A : Option Addr) (n c : Nat) (xs : List Nat) (hs : Sl w B A n c xs) (hd : Dg b64 xs) (hn : n ≤ 17592186044416) :
    Calls Tryd.prog 94 #[.slice A n c] w fun e w' => RetN b64 w (V b64 xs) e w' := by
  have hlc := hs.cap
  have hm := hs.max
  go_enter Tryd.func94, Tryd.ntmps94
  go_wp2_with (first | (go_at_call 90; refine (ltrim_sl w B A n c xs hs).mono ?_; rintro e w1 ⟨m, rfl, h1, h2, rfl⟩) | (at_builtin; refine wl_append_nil rfl _ _ Tryd.underlying56 rfl A m c (trimmed xs) rfl B h1 (by omega) ?_; intro A' c' w1 h3 h4))
  go_ret
  exact ⟨_, trimmed_nm hd, _, _, _, rfl, h3, h4⟩

theorem copy_V {zs ys : List Nat} {B n : Nat} (hz : zs = List.replicate n 0) (hl : ys.length ≤ n) : V B (splice zs 0 ys) = V B ys ∧ (splice zs 0 ys).length = n ∧ (∀ t, ys.length ≤ t → t < n → (splice zs 0 ys)[t]? = some 0) := by
  subst hz
  have e : splice (List.replicate n 0) 0 ys = ys ++ List.replicate (n - ys.length) 0 := by simp [splice]
  rw [e]
  refine ⟨V_zeros ys _, by simp; omega, fun t h1 h2 => ?_⟩
  rw [List.getElem?_append_right h1, List.getElem?_replicate]
  simp; omega
theorem copy_Dg {zs ys : List Nat} {B : Nat} (hz : Dg B zs) (hy : Dg B ys) (o : Nat) : Dg B (splice zs o ys) := (hz.take _).append (hy.append (hz.drop _))

end Go.Proofs.YtnpaidieijlkkaaDoor

/-
  DERIVED: THE SHELF's CONTRACTS AT THIS DUMP, IN PLAIN WORDS (tools/lay-plain.mjs out of 'TrydShelf.lean', which tools/lay-shelf.mjs wrote): THE SAME DECLARATIONS UNDER THE SAME NAMES: 'import', 'namespace', 'open', 'def', 'theorem' AND NOTHING ELSE: no command of the shelf's: FOR A HAND-IN. Each laying: the table of numbers ('.._ren') and one theorem, a field a fact of the dump's own or the kernel's comparison; each contract: ONE APPLICATION.
-/
namespace Go.Proofs
open Go.Shelf
def Tryd.lays134_ren : Go.Shelf.Ren := ⟨fun | 134 => 125 | 129 => 91 | n => n, fun | 53 => 59 | 3 => 3 | 4 => 4 | 46 => 136 | 5 => 5 | 9 => 9 | n => n, fun | n => n⟩
theorem Tryd.lays134 : Go.Proofs.Lays.n134 Tryd.prog Tryd.lays134_ren := {
  mixed := by kernel_rfl
  f129 := Tryd.func91.trans (congrArg some (by kernel_rfl))
  f134 := Tryd.func125.trans (congrArg some (by kernel_rfl))
  t3 := Tryd.underlying3
  a3 := Tryd.isAgg3
  z3 := Tryd.sizeOf3
  v3 := Tryd.zeroValue3
  t4 := Tryd.underlying4
  a4 := Tryd.isAgg4
  z4 := Tryd.sizeOf4
  v4 := Tryd.zeroValue4
  t5 := Tryd.underlying5
  a5 := Tryd.isAgg5
  z5 := Tryd.sizeOf5
  v5 := Tryd.zeroValue5
  t9 := Tryd.underlying9
  a9 := Tryd.isAgg9
  z9 := Tryd.sizeOf9
  v9 := Tryd.zeroValue9
  t46 := Tryd.underlying136
  a46 := Tryd.isAgg136
  z46 := Tryd.sizeOf136
  v46 := Tryd.zeroValue136
  t53 := Tryd.underlying59
  a53 := Tryd.isAgg59
  z53 := Tryd.sizeOf59
  v53 := Tryd.zeroValue59 }
/-- bits.LeadingZeros64: "LeadingZeros64 returns the number of leading zero bits in x; the result is 64 for x == 0.": IT RETURNS '64 - Lib.bitLen x'; the world is as it was. ITS CALLEE bits.Len64 IS MET BY ITS OWN CONTRACT OFF THE SHELF (lay that first): entered in place it sends the kernel out of memory. (LAID: no walk: one application.) -/
theorem Tryd.bits_LeadingZeros64 (x : Int) (w : World) (h0 : 0 ≤ x) (h1 : x ≤ 18446744073709551615) :
    Calls Tryd.prog 125 #[.int .u64 x] w fun e w' => e = .returned (.int .i64 (64 - (Lib.bitLen x.toNat : Int))) ∧ w' = w := Any.bits_LeadingZeros64 Tryd.lays134 x w h0 h1
def Tryd.lays215_ren : Go.Shelf.Ren := ⟨fun | 215 => 135 | n => n, fun | 3 => 3 | 4 => 4 | n => n, fun | n => n⟩
theorem Tryd.lays215 : Go.Proofs.Lays.n215 Tryd.prog Tryd.lays215_ren := {
  mixed := by kernel_rfl
  f215 := Tryd.func135.trans (congrArg some (by kernel_rfl))
  t3 := Tryd.underlying3
  a3 := Tryd.isAgg3
  z3 := Tryd.sizeOf3
  v3 := Tryd.zeroValue3
  t4 := Tryd.underlying4
  a4 := Tryd.isAgg4
  z4 := Tryd.sizeOf4
  v4 := Tryd.zeroValue4 }
open Go.RowKit in
/-- cmp.isNaN at int: 'x != x': false. (LAID: no walk: one application.) -/
theorem Tryd.cmp_isNaN_int (x : Int) (w : World) :
    Calls Tryd.prog 135 #[.int .i64 x] w fun e w' => e = .returned (.bool false) ∧ w' = w := Any.cmp_isNaN_int Tryd.lays215 x w
def Tryd.lays122_ren : Go.Shelf.Ren := ⟨fun | 122 => 120 | 215 => 135 | n => n, fun | 3 => 3 | 4 => 4 | n => n, fun | n => n⟩
theorem Tryd.lays122 : Go.Proofs.Lays.n122 Tryd.prog Tryd.lays122_ren := {
  mixed := by kernel_rfl
  f122 := Tryd.func120.trans (congrArg some (by kernel_rfl))
  f215 := Tryd.func135.trans (congrArg some (by kernel_rfl))
  t3 := Tryd.underlying3
  a3 := Tryd.isAgg3
  z3 := Tryd.sizeOf3
  v3 := Tryd.zeroValue3
  t4 := Tryd.underlying4
  a4 := Tryd.isAgg4
  z4 := Tryd.sizeOf4
  v4 := Tryd.zeroValue4 }
open Go.RowKit in
/-- cmp.Compare at int: "Compare returns -1 if x is less than y, 0 if x equals y, +1 if x is greater than y.": IT RETURNS 'Lib.compareInt x y'; the world is as it was. (LAID: no walk: one application.) -/
theorem Tryd.cmp_Compare_int (x y : Int) (w : World) :
    Calls Tryd.prog 120 #[.int .i64 x, .int .i64 y] w fun e w' => e = .returned (.int .i64 (Lib.compareInt x y)) ∧ w' = w := Any.cmp_Compare_int Tryd.lays122 x y w
def Tryd.lays129_ren : Go.Shelf.Ren := ⟨fun | 129 => 91 | n => n, fun | 53 => 59 | 3 => 3 | 4 => 4 | 46 => 136 | 5 => 5 | 9 => 9 | n => n, fun | n => n⟩
theorem Tryd.lays129 : Go.Proofs.Lays.n129 Tryd.prog Tryd.lays129_ren := {
  mixed := by kernel_rfl
  f129 := Tryd.func91.trans (congrArg some (by kernel_rfl))
  t3 := Tryd.underlying3
  a3 := Tryd.isAgg3
  z3 := Tryd.sizeOf3
  v3 := Tryd.zeroValue3
  t4 := Tryd.underlying4
  a4 := Tryd.isAgg4
  z4 := Tryd.sizeOf4
  v4 := Tryd.zeroValue4
  t5 := Tryd.underlying5
  a5 := Tryd.isAgg5
  z5 := Tryd.sizeOf5
  v5 := Tryd.zeroValue5
  t9 := Tryd.underlying9
  a9 := Tryd.isAgg9
  z9 := Tryd.sizeOf9
  v9 := Tryd.zeroValue9
  t46 := Tryd.underlying136
  a46 := Tryd.isAgg136
  z46 := Tryd.sizeOf136
  v46 := Tryd.zeroValue136
  t53 := Tryd.underlying59
  a53 := Tryd.isAgg59
  z53 := Tryd.sizeOf59
  v53 := Tryd.zeroValue59 }
/-- bits.Len64: "Len64 returns the minimum number of bits required to represent x; the result is 0 for x == 0.": IT RETURNS 'Lib.bitLen x'; the world is as it was. ('h0', 'h1': x is a uint64.) (LAID: no walk: one application.) -/
theorem Tryd.bits_Len64 (x : Int) (w : World) (h0 : 0 ≤ x) (h1 : x ≤ 18446744073709551615) :
    Calls Tryd.prog 91 #[.int .u64 x] w fun e w' => e = .returned (.int .i64 (Lib.bitLen x.toNat)) ∧ w' = w := Any.bits_Len64 Tryd.lays129 x w h0 h1
def Tryd.lays264_ren : Go.Shelf.Ren := ⟨fun | 264 => 155 | n => n, fun | 53 => 59 | 46 => 136 | n => n, fun | n => n⟩
theorem Tryd.lays264 : Go.Proofs.Lays.n264 Tryd.prog Tryd.lays264_ren := {
  mixed := by kernel_rfl
  f264 := Tryd.func155.trans (congrArg some (by kernel_rfl))
  t46 := Tryd.underlying136
  a46 := Tryd.isAgg136
  z46 := Tryd.sizeOf136
  v46 := Tryd.zeroValue136
  t53 := Tryd.underlying59
  a53 := Tryd.isAgg59
  z53 := Tryd.sizeOf59
  v53 := Tryd.zeroValue59 }
open Go.RowKit Go.Lib in
theorem Tryd.bits_Mul64 (x y : Nat) (hx : x < 18446744073709551616) (hy : y < 18446744073709551616) (w : World) :
    Calls Tryd.prog 155 #[.int .u64 x, .int .u64 y] w fun e w' => e = .returned (.tuple #[.int .u64 ((x * y / 18446744073709551616 : Nat) : Int), .int .u64 ((x * y % 18446744073709551616 : Nat) : Int)]) ∧ w' = w := Any.bits_Mul64 Tryd.lays264 x y hx hy w
end Go.Proofs

/- limb.addMul, Mul. -/
namespace Go.Proofs.YtnpaidieijlkkaaDoor
open Go.RowKit

theorem mul64_any (x y : Nat) (hx : x < b64) (hy : y < b64) (w : World) :
    Calls Tryd.prog 155 #[.int .u64 x, .int .u64 y] w fun e w' => ∃ hi lo : Nat, e = .returned (.tuple #[.int .u64 (hi : Int), .int .u64 (lo : Int)]) ∧ b64 * hi + lo = x * y ∧ hi < b64 ∧ lo < b64 ∧ w = w' := by
  refine (Tryd.bits_Mul64 x y (lt64.1 hx) (lt64.1 hy) w).mono fun e w' ⟨he, hw⟩ => ⟨_, _, he, ?_, ?_, ?_, hw.symm⟩
  · have := Nat.div_add_mod (x * y) 18446744073709551616
    exact this
  · apply lt_of_mul_lt_sq (B := b64)
    have h1 := mul_lt_sq hx hy
    have h2 : b64 * (x * y / 18446744073709551616) ≤ x * y := Nat.mul_div_le _ _
    have h3 := b64_pos
    omega
  · exact Nat.mod_lt _ b64_pos

end Go.Proofs.YtnpaidieijlkkaaDoor

/- limb.Mul. -/
namespace Go.Proofs.YtnpaidieijlkkaaDoor
open Go.RowKit

end Go.Proofs.YtnpaidieijlkkaaDoor

/- slices.Backward over a slice of uint64: what its iterator hands out. -/
namespace Go.Proofs.YtnpaidieijlkkaaDoor
open Go.RowKit Go.Shelf
attribute [local go_sem] Oper.semAt_some

theorem wl_make_in {F : Fence} {nn : Nat} {w : World} {ops : Array Oper} {rest : List Oper} {o : Oper} {a : Act} {Q : Exit → Act → World → Prop} (hg : o.guard = none) (l : Operand) (t : TypeId) (ht : Tryd.prog.underlying t = some (.slice 59))
    (hop : o.op = Op.makeSlice t l l) (N : Int) (n : Nat) (hl : a.eval l = .int .i64 N) (hN : N = n) (hn : n ≤ 35184372088832)
    (Z : Array Value) (hZ : Z = (List.map U (List.replicate n 0)).toArray)
    (h : wpListIn F nn Tryd.prog ops Q rest (a.put o.dst (.slice (some ⟨w.heap.size, 0, none⟩) n n)) (w.alloc (.cells Z 59))) :
    wpListIn F nn Tryd.prog ops Q (o :: rest) a w := by
  obtain ⟨i0, hi, hz0, hz1, hz2⟩ := info_parts Tryd.infoU
  subst hN
  refine wpListIn_plain hg fun K hK => ?_
  have hb : (i0.bytes : Int) * (n : Int) ≤ 281474976710656 := by rw [hz2]; omega
  have hr := run_make (P := Tryd.prog) w t 59 i0 (.int .u64 0) ht hi hz0 .i64 .i64 n n (by omega) (by omega) hb (by omega)
  have e : madeCells (Value.int IntKind.u64 0).cells n = Z := by
    rw [hZ]
    apply Array.ext'
    rw [show (Value.int IntKind.u64 0).cells = #[Value.int IntKind.u64 0] from rfl, toList_madeCells_one]
    simp [U]
  simp only [Int.toNat_natCast, hz1, Nat.mul_one, e] at hr
  unfold Oper.wpIn
  refine ⟨?_, ?_⟩
  · simp [Oper.about, hop]
  rw [Oper.semAt_plain F _ _ (by rw [hop]; intro c hc'; cases hc')]
  simp [execOp, hop, hl, hr, Result.andThen]
  exact hK _ _ h

abbrev Ix (n : Nat) := { i : Nat // i < n }
/-- n - 1, n - 2, ..: k of them -/
def downL (n k : Nat) : List Nat := (List.range k).map fun j => n - 1 - j
theorem downL_zero (n : Nat) : downL n 0 = [] := rfl
theorem downL_succ (n k : Nat) : downL n (k + 1) = downL n k ++ [n - 1 - k] := by simp [downL, List.range_succ]
theorem downL_length (n k : Nat) : (downL n k).length = k := by simp [downL]
/-- what a round keeps: all below n₀, and the slice's box -/
def KpB (n₀ Bs : Nat) (W W' : World) : Prop := Below n₀ W W' ∧ W'.heap[Bs]? = W.heap[Bs]?
theorem KpB.refl (n₀ Bs : Nat) (W : World) : KpB n₀ Bs W W := ⟨Below.refl _ _, rfl⟩
theorem KpB.trans {n₀ Bs : Nat} {A B C : World} (h : KpB n₀ Bs A B) (k : KpB n₀ Bs B C) : KpB n₀ Bs A C := ⟨h.1.trans k.1, k.2.trans h.2⟩
theorem KpB.put {n₀ Bs : Nat} {w : World} (hn : n₀ ≤ w.heap.size) (hb : Bs < w.heap.size) (W : World) (l : Nat) (o o' : Obj) (hl : w.heap.size ≤ l) (h : W.heap[l]? = some o) (hc : o.isCells = false) (hw : o.isWalk = false) : KpB n₀ Bs W (W.putObj l o') :=
  ⟨belowK_b hn W l o o' hl h hc hw, (grownBy_putObj' W l o').block Bs (by have := (Array.getElem?_eq_some_iff.1 h).1; omega) (fun e => by cases e; omega)⟩
abbrev encB (xs : List Nat) (n : Nat) : Ix n → Array Value := fun i => #[.int .i64 (i.1 : Int), .int .u64 ((xs[i.1]?.getD 0 : Nat) : Int)]

set_option maxRecDepth 100000 in
set_option maxHeartbeats 2000000 in
theorem back1_in (F : Fence) (nn : Nat) (h7 : F.fn 136) (hro : F.round = none) (hn : 1 ≤ nn) (l Bs n₀ n c : Nat) (A : Option Addr) (xs : List Nat) (hm9 : n ≤ 9223372036854775807) (J Jx : List (Ix n) → World → Prop)
    (hY : ∀ pre x W, J pre W → pre.length < n → YieldAt F (nn - 1) Tryd.prog l (encB xs n x) W fun e W' =>
      (e = .returned (.bool true) ∧ J (pre ++ [x]) W' ∧ KpB n₀ Bs W W') ∨ (e = .returned (.bool false) ∧ Jx (pre ++ [x]) W'))
    (W : World) (hBs : W.cell? ⟨Bs, 0, none⟩ = some (.slice A n c)) (hs : Sl W n₀ A n c xs) (h0 : J [] W) :
    CallsIn F nn Tryd.prog 136 #[.func (.yield l) #[] #[], .pointer (some ⟨Bs, 0, none⟩)] W fun e W' => (∃ v, e = .returned v) ∧
      ((∃ ys : List (Ix n), ys.map (·.1) = downL n n ∧ J ys W') ∨ (∃ pre : List (Ix n), (∃ k, k ≤ n ∧ pre.map (·.1) = downL n k) ∧ Jx pre W')) := by
  have hlc := hs.cap
  have hmx := hs.max
  refine callsIn_of_wp Tryd.func136 rfl h7 ?_ hro
  simp only [Tryd.ntmps136, List.size_toArray, List.length_cons, List.length_nil, Nat.reduceAdd, Nat.reduceSub, Array.replicate_succ, Array.replicate_zero, List.push_toArray, List.append_toArray, List.nil_append, List.cons_append]
  gi_wp2
  gi_loopw [3] (fun i wr => ∃ (m : Nat) (pre : List (Ix n)), m ≤ n ∧ i = .int .i64 ((m : Int) - 1) ∧ pre.map (·.1) = downL n (n - m) ∧ J pre wr ∧ KpB n₀ Bs W wr)
    (fun i _ => (intOf i + 1).toNat)
  case atStart => exact ⟨n, [], Nat.le_refl _, rfl, by simp [downL], h0, KpB.refl _ _ _⟩
  case round =>
    obtain ⟨m, pre, hm, rfl, hpre, hJs, hnx⟩ := hrel
    have HP := Lib.hid hpre
    clear hpre
    by_cases hm0 : m = 0
    · subst hm0
      gi_wp2
      go_end0
      exact ⟨⟨_, rfl⟩, .inl ⟨pre, HP.out, hJs⟩⟩
    · obtain ⟨t, rfl⟩ : ∃ t, m = t + 1 := ⟨m - 1, by omega⟩
      have hBc : wr.cell? ⟨Bs, 0, none⟩ = some (.slice A n c) := (World.cell?_of_block (a := ⟨Bs, 0, none⟩) hnx.2).trans hBs
      obtain ⟨b, off, x, rfl, hb, hx, hc⟩ := (hs.below hnx.1).at_ (k := t) (by omega)
      have hpl : pre.length < n := by
        have := congrArg List.length HP.out
        rw [List.length_map, downL_length] at this
        omega
      obtain ⟨fn, tmps, assign, body, hy, hR⟩ := hY pre ⟨t, by omega⟩ wr hJs hpl
      dsimp only [encB] at hy
      rw [hx] at hy
      dsimp only [Option.getD_some] at hy
      clear hx
      have hti : (t : Int) < n := by omega
      have ht0 : (0 : Int) ≤ ((t + 1 : Nat) : Int) - 1 := by omega
      gi_wp2
      refine hR.mono ?_
      rintro e W3 (⟨rfl, hJ3, hk3⟩ | ⟨rfl, hJx3⟩)
      · gi_wp2
        go_roundw
        case rel => exact ⟨t, pre ++ [⟨t, by omega⟩], by omega, by go_num, by rw [List.map_append, HP.out, show n - t = (n - (t + 1)) + 1 by omega, downL_succ]; simp; omega, hJ3, hnx.trans hk3⟩
        case measure => simp [intOf]
      · gi_wp2
        refine bodyPost_ret (results_none rfl _ _ _) rfl ?_
        exact ⟨⟨_, rfl⟩, .inr ⟨_, ⟨n - t, by omega, by rw [List.map_append, HP.out, show n - t = (n - (t + 1)) + 1 by omega, downL_succ]; simp; omega⟩, hJx3⟩⟩

set_option maxHeartbeats 1000000 in
theorem back_in (F : Fence) (nn : Nat) (h5 : F.fn 121) (hro : F.round = none) (a : Option Addr) (len cap : Nat) (w : World) :
    CallsIn F nn Tryd.prog 121 #[.slice a len cap] w fun e w' => e = .returned (.func (.func 136) #[] #[.pointer (some ⟨w.heap.size, 0, none⟩)]) ∧ w' = w.alloc (.cells #[.slice a len cap] 56) := by
  refine callsIn_of_wp Tryd.func121 rfl h5 ?_ hro
  simp only [Tryd.ntmps121, List.size_toArray, List.length_cons, List.length_nil, Nat.reduceAdd, Nat.reduceSub, Array.replicate_succ, Array.replicate_zero, List.push_toArray, List.append_toArray, List.nil_append, List.cons_append]
  gi_wp2
  go_ret
  exact ⟨rfl, rfl⟩

theorem back_stops (F : Fence) (nn : Nat) (h7 : F.fn 136) (hro : F.round = none) (hn : 1 ≤ nn) (Bs n₀ n c : Nat) (A : Option Addr) (xs : List Nat) (w : World) (hBs : Bs < w.heap.size) (hn₀ : n₀ ≤ w.heap.size)
    (hc : w.cell? ⟨Bs, 0, none⟩ = some (.slice A n c)) (hI : Sl w n₀ A n c xs) :
    SeqStopsK F nn Tryd.prog 136 #[.pointer (some ⟨Bs, 0, none⟩)] (encB xs n) (KpB n₀ Bs) (fun ys => ys.map (·.1) = downL n n) (fun pre => ∃ k, k ≤ n ∧ pre.map (·.1) = downL n k) n w := fun l J Jx W hW _ _ hY h0 => by
  have hc' := (hW.cell (p := ⟨Bs, 0, none⟩) hBs).trans hc
  exact back1_in F nn h7 hro hn l Bs n₀ n c A xs (by have := hI.cap; have := hI.max; omega) J Jx hY W hc' (hI.below (hW.mono hn₀)) h0
end Go.Proofs.YtnpaidieijlkkaaDoor

/- A range over an iterator that makes what it hands out: of each value that comes the body is told a fact R about memory. -/
namespace Go.Proofs.YtnpaidieijlkkaaDoor
open Go.RowKit Go.Shelf

/-- the iterator's word: ahead of a round R holds of what is handed out -/
def SeqR {α : Type} (F : Fence) (n : Nat) (P : Program) (g : Nat) (lb : Array Value) (enc : α → Array Value) (R : α → World → Prop) (Kp : World → World → Prop) (S Sp : List α → Prop) (N : Nat) (w : World) : Prop :=
  ∀ (l : Nat) (J Jx : List α → World → Prop) (W : World), Below w.heap.size w W → AbidesFrom W.heap.size J → AbidesFrom W.heap.size Jx →
    (∀ pre x V, J pre V → R x V → pre.length < N → YieldAt F (n - 1) P l (enc x) V fun e V' => (e = .returned (.bool true) ∧ J (pre ++ [x]) V' ∧ Kp V V') ∨ (e = .returned (.bool false) ∧ Jx (pre ++ [x]) V')) →
    J [] W → CallsIn F n P g (#[.func (.yield l) #[] #[]] ++ lb) W fun e W' => (∃ v, e = .returned v) ∧ ((∃ xs, S xs ∧ J xs W') ∨ (∃ pre, Sp pre ∧ Jx pre W'))

/-- the loop's own two blocks -/
structure TwoBl (b : Nat) (r : Loop) (W : World) : Prop where
  lrec : W.heap[b + 1]? = some (.loop r)
  dfr : W.heap[b]? = some (.deferred (some []))
theorem TwoBl.grown {b : Nat} {r : Loop} {W W' : World} {row : Option Nat} (h : TwoBl b r W) (hg : W.grownBy W' row) (hr : ∀ k, row = some k → ∃ o : Obj, W.heap[k]? = some o ∧ o.isWalk = true) : TwoBl b r W' := by
  have go : ∀ (k : Nat) (o : Obj), W.heap[k]? = some o → o.isWalk = false → W'.heap[k]? = some o := fun k o hk ho => by
    refine (hg.block k (Array.getElem?_eq_some_iff.1 hk).1 fun e => ?_).trans hk
    obtain ⟨o2, h2, hw⟩ := hr k e.symm
    rw [hk] at h2
    cases h2
    rw [ho] at hw
    cases hw
  exact ⟨go _ _ h.lrec rfl, go _ _ h.dfr rfl⟩
theorem TwoBl.put {b : Nat} {r : Loop} {W : World} (h : TwoBl b r W) (r' : Loop) : TwoBl b r' (W.putObj (b + 1) (.loop r')) :=
  ⟨World.putObj_heap_same (Array.getElem?_eq_some_iff.1 h.lrec).1, (World.putObj_heap_other (by omega)).trans h.dfr⟩
theorem TwoBl.kept {b : Nat} {r : Loop} {W W' : World} (h : TwoBl b r W) (hk : KeepsFrom b W W') : TwoBl b r W' :=
  ⟨hk.same _ _ (Nat.le_succ _) h.lrec rfl, hk.same _ _ (Nat.le_refl _) h.dfr rfl⟩

variable {F : Fence} {n : Nat} {P : Program}

theorem wpIn_rangeR {α : Type} {g : Operand} {ps : Array Tmp} {assign body : Code} {Q : Exit → Act → World → Prop} {a : Act} {w : World}
    (hro : F.round = none) (h1 : 1 ≤ n) {gf : Nat} {lb : Array Value} (hg : a.eval g = .func (.func gf) #[] lb) (hFg : F.fn gf) (eg : ∀ args w, (callFunc gf args).run P w = .ok (.enter gf args) w)
    {enc : α → Array Value} {R : α → World → Prop} {Kp : World → World → Prop} {S Sp : List α → Prop} {N : Nat} (hseq : SeqR F (n - 1) P gf lb enc R Kp S Sp N w)
    (hKt : ∀ {A B C : World}, Kp A B → Kp B C → Kp A C) (hKb : ∀ (W : World) (l : Nat) (o o' : Obj), w.heap.size ≤ l → W.heap[l]? = some o → o.isCells = false → o.isWalk = false → Kp W (W.putObj l o')) (hps : ∀ x, (enc x).size = ps.size)
    (I : List α → World → Prop) (Ix : Code → List α → World → Prop) (hI : OwnFrom w.heap.size I) (hIx : ∀ c, OwnFrom w.heap.size (Ix c)) (hR : OwnFrom w.heap.size R) (h0 : I [] w) (a₁ : α → Act)
    (hassign : ∀ (l : Nat) (x : α) (W : World) (K : Act → World → Prop), K (a₁ x) W →
      assign.wpIn (F.inRound l) (n - 1 - 1) P (Exit.then K (fun _ _ _ => False)) { tmps := (ps.zip (enc x)).foldl (fun t (p, v) => t.setIfInBounds p v) a.tmps, defers := [] } W)
    (hbody : ∀ (l : Nat) (pre : List α) (x : α) (W : World), I pre W → R x W → pre.length < N → body.wpIn (F.inRound l) (n - 1 - 1) P (ownPostG w.heap.size Kp I Ix (pre ++ [x]) W) (a₁ x) W)
    (hdone : ∀ (D : Nat) (xs : List α) (W : World), w.heap.size ≤ D → S xs → I xs W → W.heap[D]? = some (.deferred (some [])) → Q .normal { a with defers := { target := .collected D, args := #[] } :: a.defers } W)
    (hstop : ∀ (D : Nat) (c : Code) (pre : List α) (W : World), w.heap.size ≤ D → Sp pre → Ix c pre W → W.heap[D]? = some (.deferred (some [])) → c.wpIn F n P Q { a with defers := { target := .collected D, args := #[] } :: a.defers } W) :
    (Code.rangeFunc g ps assign body).wpIn F n P Q a w := by
  refine wpIn_rangeFunc fun fn hfn => ?_
  rw [hro]
  obtain ⟨b, hb⟩ : ∃ b, w.heap.size = b := ⟨_, rfl⟩
  let lp : LoopState → Option Code → Loop := fun st pe => { state := st, pending := pe, fn, tmps := a.tmps, params := ps, assign, body, defers := b }
  let V := (w.alloc (.deferred (some []))).alloc (.loop (lp .ready none))
  have hV : TwoBl b (lp .ready none) V := by
    refine ⟨?_, ?_⟩
    · have h := World.alloc_heap_new (w.alloc (.deferred (some []))) (.loop (lp .ready none))
      rwa [World.size_alloc, hb] at h
    · rw [← hb]
      exact (Below.heap_alloc (w.alloc (.deferred (some []))) _ _ (by simp)).trans (World.alloc_heap_new w _)
  have hIV : I [] V := hI.alloc _ (hI.alloc _ h0)
  have hbel : Below w.heap.size w V := ((Below.refl _ w).alloc (Nat.le_refl _) _).alloc (by simp) _
  have hsz : w.heap.size ≤ V.heap.size := hbel.size
  have wide : ∀ {A : World} {row : Option Nat}, (∀ r, row = some r → V.heap.size ≤ r ∧ ∃ o : Obj, A.heap[r]? = some o ∧ o.isWalk = true) → ∀ r, row = some r → w.heap.size ≤ r ∧ ∃ o : Obj, A.heap[r]? = some o ∧ o.isCells = false := fun h r e => by
    obtain ⟨h1, o, ho, hw⟩ := h r e
    exact ⟨Nat.le_trans hsz h1, o, ho, Obj.not_cells_of_walk hw⟩
  have hent := run_enterLoop_outer (P := P) (w := w) fn a.tmps ps assign body
  rw [hb] at hent
  refine ⟨b + 1, [{ target := .collected b, args := #[] }], V, { target := .fn (.func gf) lb, args := #[.func (.yield (b + 1)) #[] #[]] }, V, gf, #[.func (.yield (b + 1)) #[] #[]] ++ lb, V, hent, ?_, ?_, ?_, fun _ => h1, ?_⟩
  · simp only [resolve, hg]
    simp [go_sem]
  · intro f' hf'
    simp [Target.leads] at hf'
    exact hf' ▸ hFg
  · simp [invoke, go_sem, eg]
  have hcall := hseq (b + 1) (fun pre W => I pre W ∧ TwoBl b (lp .ready none) W) (fun pre W => ∃ c, Ix c pre W ∧ TwoBl b (lp .done (some c)) W) V hbel
    (fun s A B row hs hg' hr => ⟨hI s A B row hs.1 hg' (wide hr), hs.2.grown hg' fun k e => (hr k e).2⟩)
    (fun s A B row hs hg' hr => by
      obtain ⟨c, h1, h2⟩ := hs
      exact ⟨c, hIx c s A B row h1 hg' (wide hr), h2.grown hg' fun k e => (hr k e).2⟩)
    (by
      rintro pre x W ⟨hi, ht⟩ hx hlen
      refine ⟨fn, _, assign, body, run_yield (P := P) (args := enc x) ht.lrec (hps x), roundIn_of_wpIn hfn (hassign _ x W _ ⟨_, run_beginRound ht.lrec rfl, ?_⟩)⟩
      have hle : w.heap.size ≤ b + 1 := by omega
      have hbusy := ht.put { lp .ready none with state := .busy }
      have hkb : Kp W (W.putObj (b + 1) (.loop { lp .ready none with state := .busy })) := hKb _ _ _ _ hle ht.lrec rfl rfl
      refine wpIn_mono (hbody (b + 1) pre x _ (hI.putObj _ hi hle ht.lrec rfl) (hR.putObj _ hx hle ht.lrec rfl) hlen) ?_
      have leave : ∀ (c : Code) (X : World), KeepsFrom w.heap.size (W.putObj (b + 1) (.loop { lp .ready none with state := .busy })) X → Ix c (pre ++ [x]) X →
          (Instr.endRound (b + 1) (some c)).run P X = .ok (.bool false) (X.putObj (b + 1) (.loop (lp .done (some c)))) ∧ ∃ c', Ix c' (pre ++ [x]) (X.putObj (b + 1) (.loop (lp .done (some c)))) ∧ TwoBl b (lp .done (some c')) (X.putObj (b + 1) (.loop (lp .done (some c)))) := fun c X hk hi3 => by
        have ht3 := hbusy.kept (hb ▸ hk)
        exact ⟨run_endRound (P := P) (some c) ht3.lrec, c, (hIx c).putObj _ hi3 hle ht3.lrec rfl, ht3.put _⟩
      rintro e a3 X hp
      cases e with
      | normal =>
        obtain ⟨hk, hkp, hi3⟩ := hp
        have ht3 := hbusy.kept (hb ▸ hk)
        exact ⟨_, _, run_endRound (P := P) none ht3.lrec, .inl ⟨rfl, ⟨hI.putObj _ hi3 hle ht3.lrec rfl, ht3.put _⟩, hKt (hKt hkb hkp) (hKb _ _ _ _ hle ht3.lrec rfl rfl)⟩⟩
      | ret => exact ⟨_, _, (leave _ X hp.1 hp.2).1, .inr ⟨rfl, (leave _ X hp.1 hp.2).2⟩⟩
      | exit id => exact ⟨_, _, (leave _ X hp.1 hp.2).1, .inr ⟨rfl, (leave _ X hp.1 hp.2).2⟩⟩
      | goto t => exact ⟨_, _, (leave _ X hp.1 hp.2).1, .inr ⟨rfl, (leave _ X hp.1 hp.2).2⟩⟩
      | panic ch => exact hp.elim
      | outgrown => exact hp.elim) ⟨hIV, hV⟩
  refine hcall.mono ?_
  have hle : w.heap.size ≤ b + 1 := by omega
  rintro e X ⟨⟨v, rfl⟩, (⟨xs, hS, hi, ht⟩ | ⟨pre, hSp, c, hi, ht⟩)⟩
  · exact ⟨none, _, run_endLoop (P := P) ht.lrec (by intro h; cases h), hdone b xs _ (by omega) hS (hI.putObj _ hi hle ht.lrec rfl) ((World.putObj_heap_other (by omega)).trans ht.dfr)⟩
  · exact ⟨some c, _, run_endLoop (P := P) ht.lrec (by intro h; cases h), hstop b c pre _ (by omega) hSp ((hIx c).putObj _ hi hle ht.lrec rfl) ((World.putObj_heap_other (by omega)).trans ht.dfr)⟩
end Go.Proofs.YtnpaidieijlkkaaDoor

/- The range law of RangeR, with a fact R that also speaks of what came ahead of it. -/
set_option linter.unusedVariables false
set_option linter.unusedSimpArgs false
namespace Go.Proofs.YtnpaidieijlkkaaDoor
open Go.RowKit Go.Shelf

/-- the iterator's word: ahead of a round R holds of what is handed out, behind what came before -/
def SeqP {α : Type} (F : Fence) (n : Nat) (P : Program) (g : Nat) (lb : Array Value) (enc : α → Array Value) (R : List α → α → World → Prop) (Kp : World → World → Prop) (S Sp : List α → Prop) (N : Nat) (w : World) : Prop :=
  ∀ (l : Nat) (J Jx : List α → World → Prop) (W : World), Below w.heap.size w W → AbidesFrom W.heap.size J → AbidesFrom W.heap.size Jx →
    (∀ pre x V, J pre V → R pre x V → pre.length < N → YieldAt F (n - 1) P l (enc x) V fun e V' => (e = .returned (.bool true) ∧ J (pre ++ [x]) V' ∧ Kp V V') ∨ (e = .returned (.bool false) ∧ Jx (pre ++ [x]) V')) →
    J [] W → CallsIn F n P g (#[.func (.yield l) #[] #[]] ++ lb) W fun e W' => (∃ v, e = .returned v) ∧ ((∃ xs, S xs ∧ J xs W') ∨ (∃ pre, Sp pre ∧ Jx pre W'))

variable {F : Fence} {n : Nat} {P : Program}

theorem wpIn_rangeP {α : Type} {g : Operand} {ps : Array Tmp} {assign body : Code} {Q : Exit → Act → World → Prop} {a : Act} {w : World}
    (hro : F.round = none) (h1 : 1 ≤ n) {gf : Nat} {lb : Array Value} (hg : a.eval g = .func (.func gf) #[] lb) (hFg : F.fn gf) (eg : ∀ args w, (callFunc gf args).run P w = .ok (.enter gf args) w)
    {enc : α → Array Value} {R : List α → α → World → Prop} {Kp : World → World → Prop} {S Sp : List α → Prop} {N : Nat} (hseq : SeqP F (n - 1) P gf lb enc R Kp S Sp N w)
    (hKt : ∀ {A B C : World}, Kp A B → Kp B C → Kp A C) (hKb : ∀ (W : World) (l : Nat) (o o' : Obj), w.heap.size ≤ l → W.heap[l]? = some o → o.isCells = false → o.isWalk = false → Kp W (W.putObj l o')) (hps : ∀ x, (enc x).size = ps.size)
    (I : List α → World → Prop) (Ix : Code → List α → World → Prop) (hI : OwnFrom w.heap.size I) (hIx : ∀ c, OwnFrom w.heap.size (Ix c)) (hR : ∀ pre, OwnFrom w.heap.size (R pre)) (h0 : I [] w) (a₁ : α → Act)
    (hassign : ∀ (l : Nat) (x : α) (W : World) (K : Act → World → Prop), K (a₁ x) W →
      assign.wpIn (F.inRound l) (n - 1 - 1) P (Exit.then K (fun _ _ _ => False)) { tmps := (ps.zip (enc x)).foldl (fun t (p, v) => t.setIfInBounds p v) a.tmps, defers := [] } W)
    (hbody : ∀ (l : Nat) (pre : List α) (x : α) (W : World), I pre W → R pre x W → pre.length < N → body.wpIn (F.inRound l) (n - 1 - 1) P (ownPostG w.heap.size Kp I Ix (pre ++ [x]) W) (a₁ x) W)
    (hdone : ∀ (D : Nat) (xs : List α) (W : World), w.heap.size ≤ D → S xs → I xs W → W.heap[D]? = some (.deferred (some [])) → Q .normal { a with defers := { target := .collected D, args := #[] } :: a.defers } W)
    (hstop : ∀ (D : Nat) (c : Code) (pre : List α) (W : World), w.heap.size ≤ D → Sp pre → Ix c pre W → W.heap[D]? = some (.deferred (some [])) → c.wpIn F n P Q { a with defers := { target := .collected D, args := #[] } :: a.defers } W) :
    (Code.rangeFunc g ps assign body).wpIn F n P Q a w := by
  refine wpIn_rangeFunc fun fn hfn => ?_
  rw [hro]
  obtain ⟨b, hb⟩ : ∃ b, w.heap.size = b := ⟨_, rfl⟩
  let lp : LoopState → Option Code → Loop := fun st pe => { state := st, pending := pe, fn, tmps := a.tmps, params := ps, assign, body, defers := b }
  let V := (w.alloc (.deferred (some []))).alloc (.loop (lp .ready none))
  have hV : TwoBl b (lp .ready none) V := by
    refine ⟨?_, ?_⟩
    · have h := World.alloc_heap_new (w.alloc (.deferred (some []))) (.loop (lp .ready none))
      rwa [World.size_alloc, hb] at h
    · rw [← hb]
      exact (Below.heap_alloc (w.alloc (.deferred (some []))) _ _ (by simp)).trans (World.alloc_heap_new w _)
  have hIV : I [] V := hI.alloc _ (hI.alloc _ h0)
  have hbel : Below w.heap.size w V := ((Below.refl _ w).alloc (Nat.le_refl _) _).alloc (by simp) _
  have hsz : w.heap.size ≤ V.heap.size := hbel.size
  have wide : ∀ {A : World} {row : Option Nat}, (∀ r, row = some r → V.heap.size ≤ r ∧ ∃ o : Obj, A.heap[r]? = some o ∧ o.isWalk = true) → ∀ r, row = some r → w.heap.size ≤ r ∧ ∃ o : Obj, A.heap[r]? = some o ∧ o.isCells = false := fun h r e => by
    obtain ⟨h1, o, ho, hw⟩ := h r e
    exact ⟨Nat.le_trans hsz h1, o, ho, Obj.not_cells_of_walk hw⟩
  have hent := run_enterLoop_outer (P := P) (w := w) fn a.tmps ps assign body
  rw [hb] at hent
  refine ⟨b + 1, [{ target := .collected b, args := #[] }], V, { target := .fn (.func gf) lb, args := #[.func (.yield (b + 1)) #[] #[]] }, V, gf, #[.func (.yield (b + 1)) #[] #[]] ++ lb, V, hent, ?_, ?_, ?_, fun _ => h1, ?_⟩
  · simp only [resolve, hg]
    simp [go_sem]
  · intro f' hf'
    simp [Target.leads] at hf'
    exact hf' ▸ hFg
  · simp [invoke, go_sem, eg]
  have hcall := hseq (b + 1) (fun pre W => I pre W ∧ TwoBl b (lp .ready none) W) (fun pre W => ∃ c, Ix c pre W ∧ TwoBl b (lp .done (some c)) W) V hbel
    (fun s A B row hs hg' hr => ⟨hI s A B row hs.1 hg' (wide hr), hs.2.grown hg' fun k e => (hr k e).2⟩)
    (fun s A B row hs hg' hr => by
      obtain ⟨c, h1, h2⟩ := hs
      exact ⟨c, hIx c s A B row h1 hg' (wide hr), h2.grown hg' fun k e => (hr k e).2⟩)
    (by
      rintro pre x W ⟨hi, ht⟩ hx hlen
      refine ⟨fn, _, assign, body, run_yield (P := P) (args := enc x) ht.lrec (hps x), roundIn_of_wpIn hfn (hassign _ x W _ ⟨_, run_beginRound ht.lrec rfl, ?_⟩)⟩
      have hle : w.heap.size ≤ b + 1 := by omega
      have hbusy := ht.put { lp .ready none with state := .busy }
      have hkb : Kp W (W.putObj (b + 1) (.loop { lp .ready none with state := .busy })) := hKb _ _ _ _ hle ht.lrec rfl rfl
      refine wpIn_mono (hbody (b + 1) pre x _ (hI.putObj _ hi hle ht.lrec rfl) ((hR pre).putObj _ hx hle ht.lrec rfl) hlen) ?_
      have leave : ∀ (c : Code) (X : World), KeepsFrom w.heap.size (W.putObj (b + 1) (.loop { lp .ready none with state := .busy })) X → Ix c (pre ++ [x]) X →
          (Instr.endRound (b + 1) (some c)).run P X = .ok (.bool false) (X.putObj (b + 1) (.loop (lp .done (some c)))) ∧ ∃ c', Ix c' (pre ++ [x]) (X.putObj (b + 1) (.loop (lp .done (some c)))) ∧ TwoBl b (lp .done (some c')) (X.putObj (b + 1) (.loop (lp .done (some c)))) := fun c X hk hi3 => by
        have ht3 := hbusy.kept (hb ▸ hk)
        exact ⟨run_endRound (P := P) (some c) ht3.lrec, c, (hIx c).putObj _ hi3 hle ht3.lrec rfl, ht3.put _⟩
      rintro e a3 X hp
      cases e with
      | normal =>
        obtain ⟨hk, hkp, hi3⟩ := hp
        have ht3 := hbusy.kept (hb ▸ hk)
        exact ⟨_, _, run_endRound (P := P) none ht3.lrec, .inl ⟨rfl, ⟨hI.putObj _ hi3 hle ht3.lrec rfl, ht3.put _⟩, hKt (hKt hkb hkp) (hKb _ _ _ _ hle ht3.lrec rfl rfl)⟩⟩
      | ret => exact ⟨_, _, (leave _ X hp.1 hp.2).1, .inr ⟨rfl, (leave _ X hp.1 hp.2).2⟩⟩
      | exit id => exact ⟨_, _, (leave _ X hp.1 hp.2).1, .inr ⟨rfl, (leave _ X hp.1 hp.2).2⟩⟩
      | goto t => exact ⟨_, _, (leave _ X hp.1 hp.2).1, .inr ⟨rfl, (leave _ X hp.1 hp.2).2⟩⟩
      | panic ch => exact hp.elim
      | outgrown => exact hp.elim) ⟨hIV, hV⟩
  refine hcall.mono ?_
  have hle : w.heap.size ≤ b + 1 := by omega
  rintro e X ⟨⟨v, rfl⟩, (⟨xs, hS, hi, ht⟩ | ⟨pre, hSp, c, hi, ht⟩)⟩
  · exact ⟨none, _, run_endLoop (P := P) ht.lrec (by intro h; cases h), hdone b xs _ (by omega) hS (hI.putObj _ hi hle ht.lrec rfl) ((World.putObj_heap_other (by omega)).trans ht.dfr)⟩
  · exact ⟨some c, _, run_endLoop (P := P) ht.lrec (by intro h; cases h), hstop b c pre _ (by omega) hSp ((hIx c).putObj _ hi hle ht.lrec rfl) ((World.putObj_heap_other (by omega)).trans ht.dfr)⟩
end Go.Proofs.YtnpaidieijlkkaaDoor

/- hashes: the iterator that Chunks hands out. -/
set_option linter.unusedVariables false
set_option linter.unusedSimpArgs false
namespace Go.Proofs.YtnpaidieijlkkaaDoor
open Go.RowKit Go.Shelf
attribute [local go_sem] Oper.semAt_some

/-- the i-th piece of so many -/
def pieceL (bs : List (BitVec 8)) (k i : Nat) : List (BitVec 8) := (bs.drop (k * i)).take k
/-- what Chunks hands out -/
structure ChX where
  i : Nat
  A : Option Addr
  n : Nat
  c : Nat
abbrev encC : ChX → Array Value := fun x => #[.int .i64 (x.i : Int), .slice x.A x.n x.c]
def ChR (bs : List (BitVec 8)) (k top : Nat) (pre : List ChX) (x : ChX) (W : World) : Prop :=
  x.i = pre.length ∧ k * pre.length < bs.length ∧ SlV W W.heap.size x.A x.n x.c ((pieceL bs k pre.length).map W8) ∧ (∀ b off s, x.A = some ⟨b, off, s⟩ → top ≤ b) ∧ 1 ≤ k
theorem ChR.own (bs : List (BitVec 8)) (k top B : Nat) (pre : List ChX) : OwnFrom B (ChR bs k top pre) := fun s W W' row hs hg hr => by
  obtain ⟨h1, h2, h3, h4⟩ := hs
  exact ⟨h1, h2, (h3.kept hg (fun r e => (hr r e).2)).more hg.size, h4⟩
theorem grownN {w w' : World} (h : Below w.heap.size w w') : w.grownBy w' none := ⟨h.os, h.tape, h.output, h.size, fun i hi _ => h.block i hi⟩
/-- all has come -/
def ChS (bs : List (BitVec 8)) (k : Int) (ys : List ChX) : Prop := (1 ≤ k → bs.length ≤ k.toNat * ys.length) ∧ (k < 1 → ys = [])
/-- blocks from lo up to hi stay, and none is lost -/
def KpC (lo hi : Nat) (A B : World) : Prop := A.heap.size ≤ B.heap.size ∧ ∀ q, lo ≤ q → q < hi → B.heap[q]? = A.heap[q]?
theorem KpC.refl (lo hi : Nat) (A : World) : KpC lo hi A A := ⟨Nat.le_refl _, fun _ _ _ => rfl⟩
theorem KpC.trans {lo hi : Nat} {A B C : World} (h : KpC lo hi A B) (h' : KpC lo hi B C) : KpC lo hi A C := ⟨Nat.le_trans h.1 h'.1, fun q a b => (h'.2 q a b).trans (h.2 q a b)⟩
theorem KpC.below {lo hi B : Nat} {A C : World} (h : Below B A C) (hB : hi ≤ B) : KpC lo hi A C := ⟨h.size, fun q _ hb => h.block q (Nat.lt_of_lt_of_le hb hB)⟩
theorem KpC.put {lo hi l : Nat} {W : World} {o o' : Obj} (hl : hi ≤ l) (_ : W.heap[l]? = some o) : KpC lo hi W (W.putObj l o') :=
  ⟨by simp [World.putObj], fun q _ hq => World.putObj_heap_other (by omega)⟩
theorem RowV.keptC {t : TypeId} {A B : World} {g lo hi : Nat} {vs : List Value} (h : RowV t A g vs) (hk : KpC lo hi A B) (h1 : lo ≤ g) (h2 : g < hi) : RowV t B g vs := (hk.2 g h1 h2).trans h
theorem SlV.keptC {A B : World} {lo hi n c : Nat} {p : Option Addr} {vs : List Value} (h : SlV A hi p n c vs) (hk : KpC lo hi A B) (h1 : ∀ b off s, p = some ⟨b, off, s⟩ → lo ≤ b) : SlV B hi p n c vs :=
  ⟨h.1, h.2.1, h.2.2.1, fun hn => by
    obtain ⟨b, off, e, hlt, hc⟩ := h.2.2.2 hn
    refine ⟨b, off, e, hlt, fun k x hx => ?_⟩
    have hb := hk.2 b (h1 b off none e) hlt
    have := hc k x hx
    simp only [World.cell?, hb] at this ⊢
    exact this⟩

/-- 's[k:]' as the model has it -/
theorem SlV.dropIf {w : World} {B n c b off : Nat} {vs : List Value} (h : SlV w B (some ⟨b, off, none⟩) n c vs) {k : Nat} (hk : k ≤ n) : SlV w B (if c = k then some ⟨b, off, none⟩ else some ⟨b, off + k, none⟩) (n - k) (c - k) (vs.drop k) := by
  split
  · have h1 := h.1
    have h2 := h.2.1
    refine ⟨by rw [List.length_drop]; omega, by omega, by have := h.2.2.1; omega, fun hn => absurd (List.drop_eq_nil_of_le (by omega)) hn⟩
  · exact h.drop hk

set_option maxRecDepth 100000 in
set_option maxHeartbeats 2000000 in
theorem chunks1_to (nn : Nat) (hn : 1 ≤ nn) (w : World) (lo top g1 g2 : Nat) (A : Option Addr) (n c : Nat) (bs : List (BitVec 8)) (k : Int) (hlo1 : lo ≤ g1) (hlo2 : lo ≤ g2) (hlt1 : g1 < top) (hlt2 : g2 < top) (htop : top ≤ w.heap.size) (h1 : RowV 3 w g1 [.int .i64 k]) (h2 : RowV 22 w g2 [.slice A n c]) (hsl : SlV w top A n c (bs.map W8)) (hlow : ∀ b off s, A = some ⟨b, off, s⟩ → lo ≤ b) (hnn : n ≤ 17592186044416) (hk9 : k ≤ 9223372036854775807) :
    SeqP Fence.wide nn Tryd.prog 130 #[.pointer (some ⟨g1, 0, none⟩), .pointer (some ⟨g2, 0, none⟩)] encC (ChR bs k.toNat top) (KpC lo top) (ChS bs k) (fun _ => True) bs.length w := by
  intro l J Jx W hW hJ hJx hY h0
  have hKW : KpC lo top w W := KpC.below hW htop
  by_cases hk1 : k < 1
  · have c1 : W.cell? ⟨g1, 0, none⟩ = some (.int .i64 k) := (h1.later hW).at_ rfl
    clear hY
    refine callsIn_of_wp Tryd.func130 rfl trivial ?_ rfl
    simp only [Tryd.ntmps130, List.size_toArray, List.length_cons, List.length_nil, Nat.reduceAdd, Nat.reduceSub, Array.replicate_succ, Array.replicate_zero, List.push_toArray, List.append_toArray, List.nil_append, List.cons_append]
    gi_wp2
    refine bodyPost_ret (results_none rfl _ _ _) rfl ?_
    exact ⟨⟨_, rfl⟩, .inl ⟨[], ⟨fun h => by omega, fun _ => rfl⟩, h0⟩⟩
  obtain ⟨kn, rfl⟩ : ∃ kn : Nat, k = (kn : Int) := ⟨k.toNat, by omega⟩
  rw [Int.toNat_natCast] at hY
  have c2 : W.cell? ⟨g2, 0, none⟩ = some (.slice A n c) := (h2.later hW).at_ rfl
  have c1 : W.cell? ⟨g1, 0, none⟩ = some (.int .i64 (kn : Int)) := (h1.later hW).at_ rfl
  have hbl : n = bs.length := by simpa using hsl.len
  have hcm := hsl.max
  have hcn := hsl.cap
  have HTOP := Lib.hid htop
  have HY := Lib.hid hY
  have HSL := Lib.hid hsl
  have HLOW := Lib.hid hlow
  have HR1 := Lib.hid h1
  have HBL := Lib.hid hbl
  have HWS := Lib.hid (show top ≤ W.heap.size by have := hW.size; omega)
  clear hY hsl hlow h1 h2 hbl htop hW
  refine callsIn_of_wp Tryd.func130 rfl trivial ?_ rfl
  simp only [Tryd.ntmps130, List.size_toArray, List.length_cons, List.length_nil, Nat.reduceAdd, Nat.reduceSub, Array.replicate_succ, Array.replicate_zero, List.push_toArray, List.append_toArray, List.nil_append, List.cons_append]
  have i1 : (1 : Int) ≤ kn := by omega
  gi_wp2
  gi_loopw [4, 5] (fun s i wr => ∃ (j p r cc : Nat) (A' : Option Addr) (pre : List ChX), i = .int .i64 (j : Int) ∧ s = .slice A' r cc ∧ p + r = n ∧ pre.length = j ∧ (p = kn * j ∨ r = 0 ∧ n ≤ kn * j) ∧ Hid (SlV w top A' r cc ((bs.drop p).map W8) ∧ ∀ b off s, A' = some ⟨b, off, s⟩ → lo ≤ b) ∧ Hid (KpC lo top w wr) ∧ J pre wr) (fun s _ _ => match s with | .slice _ r _ => r | _ => 0)
  case atStart => exact ⟨0, 0, n, c, A, [], rfl, rfl, by omega, rfl, .inl (by omega), Lib.hid ⟨by simpa using HSL.out, HLOW.out⟩, Lib.hid hKW, h0⟩
  case round =>
    obtain ⟨j, p, r, cc, A', pre, rfl, rfl, hpr, hpl, hpj, HR, HK, hJs⟩ := hrel
    have HPJ := Lib.hid hpj
    have HPL := Lib.hid hpl
    have HPR := Lib.hid hpr
    clear hpj hpl hpr
    by_cases hr0 : r = 0
    · subst hr0
      gi_wp2
      go_end0
      refine ⟨⟨_, rfl⟩, .inl ⟨pre, ⟨fun _ => ?_, fun h => by omega⟩, hJs⟩⟩
      have h1 := HPJ.out
      have h2 := HPR.out
      rw [Int.toNat_natCast, HPL.out, ← HBL.out]
      rcases h1 with h | ⟨_, h⟩ <;> omega
    · obtain ⟨hs, hlo⟩ := HR.out
      have hpj : p = kn * j := by rcases HPJ.out with h | ⟨h, _⟩ <;> omega
      obtain ⟨b, off, v0, rfl, hb, hv0, _⟩ := hs.at_ (k := 0) (by omega)
      clear hv0
      have hrc := hs.cap
      have hrm := hs.max
      have hrI : (0 : Int) < r := by omega
      obtain ⟨m, hm⟩ : ∃ m, min kn r = m := ⟨_, rfl⟩
      have hmI : min (kn : Int) (r : Int) = (m : Int) := by omega
      have hm0 : (0 : Int) ≤ m := by omega
      have hm1 : 0 < m := by omega
      have hmr : m ≤ r := by omega
      have hmrI : (m : Int) ≤ r := by omega
      have hmc : (m : Int) ≤ cc := by omega
      have c1 : wr.cell? ⟨g1, 0, none⟩ = some (.int .i64 (kn : Int)) := (HR1.out.keptC HK.out hlo1 hlt1).at_ rfl
      have hsm := hs.take hmr
      have hpc : ((bs.drop p).map W8).take m = (pieceL bs kn j).map W8 := by
        rw [pieceL, ← hpj, ← List.map_take]
        have hl := hs.len
        rw [List.length_map] at hl
        by_cases hkr : kn ≤ r
        · rw [show m = kn by omega]
        · rw [List.take_of_length_le (by omega), List.take_of_length_le (by omega)]
      rw [hpc] at hsm
      have HSM := Lib.hid hsm
      have hcl := clone_any wr top ⟨b, off, none⟩ m cc (pieceL bs kn j) (hsm.keptC HK.out hlo) (by have := HK.out.1; have := HTOP.out; omega) (by have := HPR.out; omega)
      have HCL := Lib.hid hcl
      have hjI : (j : Int) ≤ 17592186044416 := by
        have h1 := HPR.out
        have h4 : 1 ≤ kn := by omega
        have h5 : 1 * j ≤ kn * j := Nat.mul_le_mul h4 (Nat.le_refl j)
        omega
      have HPJ2 := Lib.hid hpj
      have HS := Lib.hid hs
      have HLO := Lib.hid hlo
      have HM := Lib.hid (⟨hm1, hmr, by omega⟩ : 0 < m ∧ m ≤ r ∧ (m = kn ∨ m = r ∧ r ≤ kn))
      clear hcl hsm hpc hm hpj hs hlo hb
      gi_wp2_with fail
      refine ⟨trivial, (callsIn_wide.2 HCL.out).mono ?_⟩
      rintro e w1 ⟨v1, rfl, hown1, hb1⟩
      obtain ⟨A1, c1', rfl, hsl1, hlow1, _⟩ := SlV.of_own hown1
      have hJ1 := hJ pre wr w1 none hJs (grownN hb1) (fun r e => by cases e)
      have hWr : top ≤ wr.heap.size := by have := HK.out.1; have := HTOP.out; omega
      have HX := Lib.hid (show ChR bs kn top pre ⟨j, A1, m, c1'⟩ w1 from ⟨HPL.out.symm, by rw [HPL.out, ← HPJ2.out, ← HBL.out]; have := HPR.out; omega, by rw [HPL.out]; exact hsl1, fun b off s h => Nat.le_trans hWr (hlow1 b off s h), by omega⟩)
      obtain ⟨fn, tmps, assign, body, hy, hRd⟩ := HY.out pre ⟨j, A1, m, c1'⟩ w1 hJ1 HX.out (by
        rw [HPL.out]
        have h1 := HPJ2.out
        have h2 := HPR.out
        have h3 := HBL.out
        have h4 : 1 ≤ kn := by omega
        have h5 : 1 * j ≤ kn * j := Nat.mul_le_mul h4 (Nat.le_refl j)
        omega)
      dsimp only [encC] at hy
      have HK1 := Lib.hid (HK.out.trans (KpC.below hb1 hWr))
      clear hb1 hJ1 hsl1 hlow1 hown1
      gi_wp2
      refine hRd.mono ?_
      rintro e W3 (⟨rfl, hJ3, hKp⟩ | ⟨rfl, hJx3⟩)
      · have HK3 := Lib.hid (HK1.out.trans hKp)
        clear hKp
        gi_wp2
        go_roundw
        case rel =>
          refine ⟨j + 1, p + m, r - m, cc - m, if cc = m then some ⟨b, off, none⟩ else some ⟨b, off + m, none⟩, pre ++ [⟨j, A1, m, c1'⟩], by go_num, rfl, by have := HPR.out; have := HM.out; omega, by simp [HPL.out], ?_, ?_, HK3, hJ3⟩
          · have h1 := HPJ2.out
            have h2 := HM.out.2.2
            have h3 := HPR.out
            rw [Nat.mul_add, Nat.mul_one]
            omega
          · refine Lib.hid ⟨?_, fun b' off' s h => ?_⟩
            · have h := HS.out.dropIf HM.out.2.1
              rw [← List.map_drop, List.drop_drop] at h
              exact h
            · split at h <;> injection h with h <;> injection h with h1 h2 <;> rw [← h1]
              all_goals exact HLO.out b off none rfl
        case measure => have := HM.out; show r - m < r; omega
      · gi_wp2
        refine bodyPost_ret (results_none rfl _ _ _) rfl ?_
        exact ⟨⟨_, rfl⟩, .inr ⟨_, trivial, hJx3⟩⟩
theorem chunks1_in (nn : Nat) (hn : 1 ≤ nn) (w : World) (lo g1 g2 : Nat) (v : Value) (n : Nat) (bs : List (BitVec 8)) (k : Int) (hlo1 : lo ≤ g1) (hlo2 : lo ≤ g2) (h1 : RowV 3 w g1 [.int .i64 k]) (h2 : RowV 22 w g2 [v]) (hown : w.ownsRow lo 5 1 v n (bs.map W8)) (hnn : n ≤ 17592186044416) (hk9 : k ≤ 9223372036854775807) :
    SeqP Fence.wide nn Tryd.prog 130 #[.pointer (some ⟨g1, 0, none⟩), .pointer (some ⟨g2, 0, none⟩)] encC (ChR bs k.toNat w.heap.size) (KpC lo w.heap.size) (ChS bs k) (fun _ => True) bs.length w := by
  obtain ⟨A, c, rfl, hsl, hlow, hz⟩ := SlV.of_own hown
  exact chunks1_to nn hn w lo w.heap.size g1 g2 A n c bs k hlo1 hlo2 h1.lt h2.lt (Nat.le_refl _) h1 h2 hsl hlow hnn hk9
end Go.Proofs.YtnpaidieijlkkaaDoor

/- hashes: Write. -/
set_option linter.unusedVariables false
set_option linter.unusedSimpArgs false
namespace Go.Proofs.YtnpaidieijlkkaaDoor
open Go.RowKit Go.Shelf
attribute [local go_sem] Oper.semAt_some

/-- a block's length -/
def blN (k : Int) : Nat := if k = 4 then 128 else if k = 5 then 128 else 64
theorem blN_eq {k : Int} (h : KindOk k) : blockV k = (blN k : Int) := by rcases h.cases with rfl | rfl | rfl | rfl | rfl <;> rfl
theorem blN_two (k : Int) : blN k = 64 ∨ blN k = 128 := by unfold blN; split; exact .inr rfl; split; exact .inr rfl; exact .inl rfl
/-- so many blocks taken into the words -/
def chainV (k : Int) (ws : List (BitVec 64)) (bs : List (BitVec 8)) : Nat → List (BitVec 64)
  | 0 => ws
  | n + 1 => compV k (chainV k ws bs n) (pieceL bs (blN k) n)
theorem chainV_length (k : Int) (ws : List (BitVec 64)) (bs : List (BitVec 8)) (h : ws.length = 8) : ∀ n, (chainV k ws bs n).length = 8
  | 0 => h
  | n + 1 => compV_length k _ _ (chainV_length k ws bs h n)
theorem pieceL_front (bs cs : List (BitVec 8)) (k i : Nat) (h : k * (i + 1) ≤ bs.length) : pieceL (bs ++ cs) k i = pieceL bs k i := by
  rw [Nat.mul_add, Nat.mul_one] at h
  unfold pieceL
  rw [List.drop_append_of_le_length (by omega), List.take_append_of_le_length (by rw [List.length_drop]; omega)]
theorem pieceL_drop (bs : List (BitVec 8)) (k i q : Nat) : pieceL (bs.drop (k * q)) k i = pieceL bs k (q + i) := by
  unfold pieceL
  rw [List.drop_drop, Nat.mul_add]
theorem chainV_front (k : Int) (ws : List (BitVec 64)) (bs cs : List (BitVec 8)) : ∀ n, blN k * n ≤ bs.length → chainV k ws (bs ++ cs) n = chainV k ws bs n
  | 0, _ => rfl
  | n + 1, h => by
    rw [chainV, chainV, chainV_front k ws bs cs n (Nat.le_trans (Nat.mul_le_mul_left _ (Nat.le_succ n)) h), pieceL_front _ _ _ _ h]
/-- block g is, whole, the Hash of a message -/
def HashIs (w : World) (g : Nat) (k : Int) (msg : List (BitVec 8)) : Prop :=
  ∃ left, HashR w g k (chainV k (startsL k) msg (msg.length / blN k)) (msg.length : Int) left ∧ left.take (msg.length % blN k) = msg.drop (blN k * (msg.length / blN k))
theorem HashIs.later {w w' : World} {g : Nat} {k : Int} {msg : List (BitVec 8)} (h : HashIs w g k msg) (hb : Below w.heap.size w w') : HashIs w' g k msg := by
  obtain ⟨left, h1, h2⟩ := h
  exact ⟨left, h1.later hb, h2⟩
theorem RootsG.only {w w' : World} {g : Nat} (h : RootsG w) (ho : OnlyV w w' g) (hg : 4 < g) : RootsG w' := ⟨Nat.lt_of_lt_of_le h.1 ho.size, fun k x hx => by
  have hc := h.2 k x hx
  have hb := ho.block 4 h.1 (by intro e; injection e with e; omega)
  simp only [World.cell?, hb] at hc ⊢
  exact hc⟩

theorem hashL_left (k : Int) (ws : List (BitVec 64)) (len : Int) (left : List (BitVec 8)) (hw : ws.length = 8) : (hashL k ws len left).drop 10 = left.map W8 := by
  obtain ⟨_, _, _, _, _, _, _, _, rfl⟩ := list8 hw
  rfl
theorem setL_mid : ∀ (ys a b c : List Value), b.length = ys.length → setL (a ++ (b ++ c)) a.length ys = a ++ (ys ++ c)
  | [], a, b, c, h => by obtain rfl : b = [] := List.eq_nil_of_length_eq_zero h; rfl
  | y :: r, a, [], c, h => by cases h
  | y :: r, a, x :: b, c, h => by
    have ih := setL_mid r (a ++ [y]) b c (by simpa using h)
    rw [List.length_append, List.length_singleton] at ih
    rw [setL]
    simp only [List.append_assoc, List.cons_append, List.nil_append] at ih
    rw [show (a ++ (x :: b ++ c)).set a.length y = a ++ y :: (b ++ c) by simp, ih]
    simp
theorem hashL_split (k : Int) (ws : List (BitVec 64)) (len : Int) (left : List (BitVec 8)) : hashL k ws len left = (.int .i64 k :: (ws.map W64 ++ [.int .i64 len])) ++ left.map W8 := by simp [hashL]
/-- the left bytes laid anew from the first on -/
theorem HashR.putLeft {w : World} {g : Nat} {k : Int} {ws : List (BitVec 64)} {len : Int} {left : List (BitVec 8)} (h : HashR w g k ws len left) (ys : List (BitVec 8)) (hl : ys.length ≤ 128) :
    HashR (w.setCells g 10 (ys.map W8)) g k ws len (ys ++ left.drop ys.length) :=
  ⟨by
    have h2 := RowV.setCells (ys.map W8) 10 _ _ h.row
    have e := setL_mid (ys.map W8) (.int .i64 k :: (ws.map W64 ++ [.int .i64 len])) ((left.take ys.length).map W8) ((left.drop ys.length).map W8) (by simp [h.hl]; omega)
    rw [← List.map_append, List.take_append_drop, ← hashL_split, show (Value.int .i64 k :: (ws.map W64 ++ [.int .i64 len])).length = 10 by simp [h.hw]] at e
    rw [e, ← List.map_append, ← hashL_split] at h2
    exact h2, h.hw, by rw [List.length_append, List.length_drop, h.hl]; omega⟩
theorem HashR.putLen {w : World} {g : Nat} {k : Int} {ws : List (BitVec 64)} {len : Int} {left : List (BitVec 8)} (h : HashR w g k ws len left) (l : Int) :
    HashR (w.setCell ⟨g, 9, none⟩ (.int .i64 l)) g k ws l left :=
  ⟨by
    have h2 := h.row.set 9 (.int .i64 l)
    have hw := h.hw
    obtain ⟨_, _, _, _, _, _, _, _, rfl⟩ := list8 hw
    exact h2, h.hw, h.hl⟩
theorem KpC.only {lo hi g : Nat} {A C : World} (h : OnlyV A C g) (hg : g < lo) (hB : hi ≤ A.heap.size) : KpC lo hi A C := ⟨h.size, fun q a b => h.block q (Nat.lt_of_lt_of_le b hB) (fun e => by injection e; omega)⟩
theorem OnlyV.cell {a w : World} {g : Nat} (h : OnlyV a w g) {p : Addr} (hp : p.block < a.heap.size) (hn : p.block ≠ g) : w.cell? p = a.cell? p := by
  have hb := h.block p.block hp (fun e => hn (by injection e))
  simp only [World.cell?, hb]
theorem SlV.of_own' {w : World} {base : Nat} {e : TypeId} {v : Value} {n : Nat} {vs : List Value} (h : w.ownsRow base e 1 v n vs) :
    ∃ A c, v = .slice A n c ∧ SlV w w.heap.size A n c vs ∧ (∀ b off s, A = some ⟨b, off, s⟩ → base ≤ b) ∧ (A = none → c = 0) := by
  obtain ⟨A, c, rfl, h1, h2, _⟩ := SlV.of_own h
  refine ⟨A, c, rfl, h1, h2, fun e => ?_⟩
  subst e
  rcases h.2 with ⟨e, _⟩ | ⟨g, cap, cur, e, _⟩
  · cases e; rfl
  · cases e
/-- how far Write has come: so many pieces of what is to be taken -/
def WI (w0 : World) (g : Nat) (k : Int) (M : List (BitVec 8)) (q : Nat) (nx : List (BitVec 8)) (pre : List ChX) (W : World) : Prop :=
  OnlyV w0 W g ∧ HashR W g k (chainV k (startsL k) M (q + min pre.length (nx.length / blN k))) (M.length : Int) (if nx.length / blN k < pre.length then pieceL nx (blN k) (nx.length / blN k) ++ (List.replicate 128 0).drop (pieceL nx (blN k) (nx.length / blN k)).length else List.replicate 128 0)
theorem HashR.kept {A B' : World} {g : Nat} {k : Int} {ws : List (BitVec 64)} {len : Int} {left : List (BitVec 8)} (h : HashR A g k ws len left) {row : Option Nat} (hg : A.grownBy B' row) (hr : ∀ r, row = some r → ∃ o : Obj, A.heap[r]? = some o ∧ o.isCells = false) : HashR B' g k ws len left := ⟨h.row.kept hg hr, h.hw, h.hl⟩
theorem OnlyV.grown {a w w' : World} {g : Nat} (h : OnlyV a w g) {row : Option Nat} (hg : w.grownBy w' row) (hr : ∀ r, row = some r → a.heap.size ≤ r) : OnlyV a w' g :=
  ⟨hg.os.trans h.os, hg.tape.trans h.tape, hg.output.trans h.output, Nat.le_trans h.size hg.size, fun i hi hn => (hg.block i (Nat.lt_of_lt_of_le hi h.size) (fun e => by have := hr i e.symm; omega)).trans (h.block i hi hn)⟩
theorem WI.own (w0 : World) (g : Nat) (k : Int) (M : List (BitVec 8)) (q : Nat) (nx : List (BitVec 8)) : OwnFrom w0.heap.size (WI w0 g k M q nx) := fun s W W' row hs hg hr =>
  ⟨hs.1.grown hg (fun r e => (hr r e).1), hs.2.kept hg (fun r e => (hr r e).2)⟩
theorem write_left (M nx : List (BitVec 8)) (bl q j : Nat) (hb : 0 < bl) (hq : bl * q ≤ M.length) (hnx : nx = M.drop (bl * q)) (hj : nx.length ≤ bl * j) :
    (if nx.length / bl < j then pieceL nx bl (nx.length / bl) ++ (List.replicate 128 (0 : BitVec 8)).drop (pieceL nx bl (nx.length / bl)).length else List.replicate 128 0).take (M.length % bl) = M.drop (bl * (M.length / bl)) ∧ M.length / bl = q + nx.length / bl ∧ nx.length / bl ≤ j := by
  have hl : M.length = bl * q + nx.length := by rw [hnx, List.length_drop]; omega
  have h1 : M.length / bl = q + nx.length / bl := by rw [hl, Nat.mul_add_div hb]
  have h2 : M.length % bl = nx.length % bl := by rw [hl, Nat.mul_add_mod]
  have h3 : nx.length / bl ≤ j := by
    have := Nat.div_le_div_right (c := bl) hj
    rwa [Nat.mul_div_cancel_left j hb] at this
  have h4 := Nat.div_add_mod nx.length bl
  have h5 := Nat.mod_lt nx.length hb
  refine ⟨?_, h1, h3⟩
  rw [h1, h2, Nat.mul_add, ← List.drop_drop, ← hnx]
  by_cases h : nx.length / bl < j
  · rw [if_pos h]
    have hp : pieceL nx bl (nx.length / bl) = nx.drop (bl * (nx.length / bl)) := by
      rw [pieceL, List.take_of_length_le (by rw [List.length_drop]; omega)]
    rw [hp, List.take_append_of_le_length (by rw [List.length_drop]; omega), List.take_of_length_le (by rw [List.length_drop]; omega)]
  · rw [if_neg h]
    have hej : nx.length / bl = j := by omega
    rw [hej] at h4 ⊢
    have h0 : nx.length % bl = 0 := by omega
    rw [h0, List.take_zero, List.drop_eq_nil_of_le (by omega)]
theorem Tryd.zero8 (w : World) : (zeroValue 5).run Tryd.prog w = .ok (.int .u8 0) w := by kernel_rfl
set_option maxRecDepth 100000 in
set_option maxHeartbeats 2000000 in
theorem write_any (w : World) (g : Nat) (k : Int) (hk : KindOk k) (msg xs : List (BitVec 8)) (hh : HashIs w g k msg) (B : Nat) (A : Option Addr) (n c : Nat) (hs : SlV w B A n c (xs.map W8)) (hz : A = none → c = 0) (hB : B ≤ w.heap.size) (hG : RootsG w) (hg1 : 4 < g) (hlen : msg.length + xs.length ≤ 17592186044416) :
    Calls Tryd.prog 79 #[.pointer (some ⟨g, 0, none⟩), .slice A n c] w fun e w' => e = .returned (.tuple #[]) ∧ HashIs w' g k (msg ++ xs) ∧ OnlyV w w' g := by
  obtain ⟨left, hR, hleft⟩ := hh
  obtain rfl : n = xs.length := by simpa using hs.len
  obtain ⟨W1, e1, r1, b1, z1⟩ := newV w 98 [.pointer (some ⟨g, 0, none⟩)] #[.pointer (some ⟨g, 0, none⟩)] rfl
  have hgl := hR.row.lt
  have hR1 := hR.later b1
  have hwk := works_yes W1 g k hk _ _ _ hR1
  have hbk := block_any W1 k
  rw [blN_eq hk] at hbk
  obtain ⟨bl, hbl⟩ : ∃ b, blN k = b := ⟨_, rfl⟩
  rw [hbl] at hbk
  obtain ⟨h0, hh0⟩ : ∃ g, w.heap.size = g := ⟨_, rfl⟩
  have c0 : W1.cell? ⟨h0, 0, none⟩ = some (.pointer (some ⟨g, 0, none⟩)) := by rw [← hh0]; exact r1.at_ rfl
  obtain ⟨W2, e2, r2, b2, z2⟩ := newV W1 3 [.int .i64 0] #[.int .i64 0] rfl
  obtain ⟨s0, hs0⟩ : ∃ g, W1.heap.size = g := ⟨_, rfl⟩
  rw [hs0] at r2 b2
  have cz2 : W2.cell? ⟨s0, 0, none⟩ = some (.int .i64 0) := r2.at_ rfl
  have fz2 := r2.frozen 0
  obtain ⟨W3, e3⟩ : ∃ W, W2.setCell ⟨s0, 0, none⟩ (.int .i64 (bl : Int)) = W := ⟨_, rfl⟩
  have r3 : RowV 3 W3 s0 [.int .i64 (bl : Int)] := by rw [← e3]; exact r2.set 0 _
  have hb13 : Below s0 W1 W3 := by rw [← e3]; exact below_setV b2 (Nat.le_refl _) 0 _
  have hb03 : Below w.heap.size w W3 := b1.trans (hb13.mono (by have := b1.size; omega))
  have hR3 := hR.later hb03
  have hh0s : h0 < s0 := by omega
  have c03 : W3.cell? ⟨h0, 0, none⟩ = some (.pointer (some ⟨g, 0, none⟩)) := (hb13.cell (p := ⟨h0, 0, none⟩) hh0s).trans c0
  have cs3 : W3.cell? ⟨s0, 0, none⟩ = some (.int .i64 (bl : Int)) := r3.at_ rfl
  have cl3 := hR3.length_
  obtain ⟨r, hr⟩ : ∃ r, msg.length % bl = r := ⟨_, rfl⟩
  have hbl2 := blN_two k
  rw [hbl] at hbl2
  have hrb : r < bl := by rw [← hr]; exact Nat.mod_lt _ (by omega)
  have hrm : ((msg.length : Int)).tmod (bl : Int) = (r : Int) := by rw [Int.tmod_eq_emod_of_nonneg (by omega), ← hr]; simp
  have hblI : (bl : Int) ≠ 0 := by omega
  have hr128 : (r : Int) ≤ 128 := by omega
  have hbl0 : ¬ bl = 0 := by omega
  obtain ⟨W4, e4⟩ : ∃ W, W3.drew = W := ⟨_, rfl⟩
  have c04 : W4.cell? ⟨h0, 0, none⟩ = some (.pointer (some ⟨g, 0, none⟩)) := by rw [← e4]; exact c03
  have cs4 : W4.cell? ⟨s0, 0, none⟩ = some (.int .i64 (bl : Int)) := by rw [← e4]; exact cs3
  have cl4 : W4.cell? ⟨g, 9, none⟩ = some (.int .i64 (msg.length : Int)) := by rw [← e4]; exact cl3
  -- the two slices that are joined
  obtain ⟨W5, e5, r5, b5, z5⟩ := newV W4 22 [.slice (some ⟨g, 10, none⟩) r 128, .slice A xs.length c] #[.slice (some ⟨g, 10, none⟩) r 128, .slice A xs.length c] rfl
  obtain ⟨p5, hp5⟩ : ∃ g, W4.heap.size = g := ⟨_, rfl⟩
  rw [hp5] at r5 b5
  have hz34 : W4.heap.size = W3.heap.size := by rw [← e4]; rfl
  have hb04 : Below w.heap.size w W4 := by rw [← e4]; exact hb03.drew
  have hb05 : Below w.heap.size w W5 := hb04.trans (b5.mono (by have := hb04.size; omega))
  have hR5 := hR.later hb05
  have hs5 := hs.below (hb05.mono hB)
  have hsl := (hR5.row.slOff 10 r (by rw [hashL_length _ _ _ _ hR5.hw hR5.hl]; omega) (by rw [hashL_length _ _ _ _ hR5.hw hR5.hl]; decide))
  rw [hashL_length _ _ _ _ hR5.hw hR5.hl, hashL_left _ _ _ _ hR5.hw] at hsl
  have hcc := concat2_any W5 p5 (some ⟨g, 10, none⟩) A r 128 xs.length c (left.take r) xs r5 W5.heap.size (by rw [List.map_take]; exact hsl) (hs5.more (by have := hb05.size; omega)) (Nat.le_refl _) (by intro h; cases h) hz (by have := Nat.mod_le msg.length bl; omega)
  have HCC := Lib.hid hcc
  have HP5 := Lib.hid hp5
  have HB5 := Lib.hid hb05
  have HC3 := Lib.hid (⟨c03, cs3, r3.lt⟩ : W3.cell? ⟨h0, 0, none⟩ = some (.pointer (some ⟨g, 0, none⟩)) ∧ W3.cell? ⟨s0, 0, none⟩ = some (.int .i64 (bl : Int)) ∧ s0 < W3.heap.size)
  have HB36 := Lib.hid (show Below W3.heap.size W3 W5 from (show Below W3.heap.size W3 W4 by rw [← e4]; exact (Below.refl _ _).drew).trans (b5.mono (by omega)))
  have HRW := Lib.hid hR
  have HWK := Lib.hid hwk
  have HBK := Lib.hid hbk
  have HH0 := Lib.hid hh0
  have kc := hR1.kind
  have HS0 := Lib.hid hs0
  have HR3 := Lib.hid hR3
  have HB3 := Lib.hid hb03
  have HR := Lib.hid hr
  have HBL := Lib.hid hbl
  have HBL2 := Lib.hid hbl2
  have HZ1 := Lib.hid z1
  clear z1 hR3 hb03 hb13 r2 r3 b2 z2 hr hbl hbl2 hR hR1 hcc hsl hs5 hR5 hb05 hb04 r5 b5 z5 hz34
  clear hwk hbk r1
  refine (callsIn_wide (n := 9)).1 ?_
  refine callsIn_of_wp_marks Tryd.func79 rfl trivial ?_ rfl
  simp only [Tryd.ntmps79, List.size_toArray, List.length_cons, List.length_nil, Nat.reduceAdd, Nat.reduceSub, Array.replicate_succ, Array.replicate_zero, List.push_toArray, List.append_toArray, List.nil_append, List.cons_append]
  gi_wp2_with fail
  refine ⟨trivial, (callsIn_wide.2 HWK.out).mono ?_⟩
  rintro e w' ⟨rfl, rfl⟩
  gi_wp2_with fail
  refine ⟨trivial, (callsIn_wide.2 HBK.out).mono ?_⟩
  rintro e w' ⟨rfl, rfl⟩
  gi_wp2_with fail
  refine wpIn_wide.2 ?_
  refine wp_region_still_tail 11 (by kernel_rfl) (by kernel_rfl) ?_
  simp only [List.take_succ_cons, List.take_zero, List.drop_succ_cons, List.drop_zero]
  show wpStill _ _ W3.drew (fun a' => wpList _ _ _ _ a' W3.drew) _ _
  rw [e4]
  clear hs0 hh0 e1 e2 e3 c0 c03 cs3 cl3 cz2 fz2 kc
  iterate 11 (refine wpStill_step (fun K hK => ?_); go_simp; refine hK _ ?_; clear hK K)
  refine wpStill_nil ?_
  clear e4 c04 cs4 cl4
  go_wp2_with fail
  refine HCC.out.mono ?_
  rintro e W6 ⟨v6, rfl, hown6, hb6⟩
  obtain ⟨A6, c6, rfl, hs6, hlow6, hz6⟩ := SlV.of_own' hown6
  have hb06 := HB5.out.trans (hb6.mono HB5.out.size)
  have hR6 := HRW.out.later hb06
  have cl6 := hR6.length_
  have hclr : ∀ ty, (Builtin.clear_ #[22] ty #[.slice (some ⟨g, 10, none⟩) 128 128]).run Tryd.prog W6 = .ok (.tuple #[]) (W6.setCells g 10 (List.replicate 128 (W8 0))) :=
    fun ty => Lib.run_clear_slice W6 _ _ ty _ Tryd.underlying22 Tryd.zero8 rfl rfl g 10 128 128 (by decide) (fun j hj => by
      rw [hR6.left_ (j := j) (x := left[j]'(by rw [hR6.hl]; exact hj)) (List.getElem?_eq_getElem _)]; rfl) (fun j hj => hR6.row.frozen _)
  have hR7 := hR6.putLeft (List.replicate 128 0) (by simp)
  rw [List.drop_eq_nil_of_le (by rw [hR6.hl]; simp), List.append_nil, List.map_replicate] at hR7
  obtain ⟨W7, e7⟩ : ∃ W, W6.setCells g 10 (List.replicate 128 (W8 0)) = W := ⟨_, rfl⟩
  have ho7 : OnlyV W6 W7 g := by rw [← e7]; exact OnlyV.sets _ _ _ (OnlyV.refl _ _)
  rw [e7] at hclr hR7
  obtain ⟨W8_, e8⟩ : ∃ W, W7.setCell ⟨g, 9, none⟩ (.int .i64 ((msg.length : Int) + (xs.length : Int))) = W := ⟨_, rfl⟩
  have hR8 := hR7.putLen ((msg.length : Int) + (xs.length : Int))
  have ho8 : OnlyV W6 W8_ g := by rw [← e8]; exact ho7.set _ _
  rw [e8] at hR8
  have cl7 := hR7.length_
  have fl7 := hR7.row.frozen 9
  have hh0w := HH0.out
  have hs0w := HS0.out
  have hgh : g < h0 := by omega
  have hz3 := HB3.out.size
  have hb36 := HB36.out.trans (hb6.mono (by have := HB36.out.size; have := HB5.out.size; omega))
  have hs0l := HC3.out.2.2
  have hz36 := hb36.size
  have c06 : W6.cell? ⟨h0, 0, none⟩ = some (.pointer (some ⟨g, 0, none⟩)) := (hb36.cell (p := ⟨h0, 0, none⟩) (by show h0 < _; omega)).trans HC3.out.1
  have cs6 : W6.cell? ⟨s0, 0, none⟩ = some (.int .i64 (bl : Int)) := (hb36.cell (p := ⟨s0, 0, none⟩) hs0l).trans HC3.out.2.1
  have c07 := (ho7.cell (p := ⟨h0, 0, none⟩) (by show h0 < _; omega) (by show h0 ≠ g; omega)).trans c06
  have c08 := (ho8.cell (p := ⟨h0, 0, none⟩) (by show h0 < _; omega) (by show h0 ≠ g; omega)).trans c06
  have cs8 := (ho8.cell (p := ⟨s0, 0, none⟩) (by show s0 < _; omega) (by show s0 ≠ g; omega)).trans cs6
  have hz68 : W8_.heap.size = W6.heap.size := by rw [← e8]; refine Eq.trans ?_ ((congrArg (fun x => x.heap.size) e7).symm.trans (heap_setCells g _ _ _).1); simp [World.setCell]
  have hs8 : SlV W8_ W6.heap.size A6 (r + xs.length) c6 ((left.take r ++ xs).map W8) := hs6.keptC (KpC.only ho8 (by have := HB5.out.size; omega : g < W5.heap.size) (Nat.le_refl _)) hlow6
  have hrl : r ≤ msg.length := by rw [← HR.out]; exact Nat.mod_le _ _
  have hch := chunks_any W8_ W6.heap.size A6 (r + xs.length) c6 (left.take r ++ xs) hs8 hz6 (by omega) (by omega) bl
  have hlI : (msg.length : Int) + (xs.length : Int) ≤ 17592186044416 := by omega
  have HCH := Lib.hid hch
  have HR8 := Lib.hid hR8
  have HO8 := Lib.hid ho8
  have HS8 := Lib.hid hs8
  have HB6 := Lib.hid hb06
  have HZ68 := Lib.hid hz68
  have HCS := Lib.hid (⟨c08, cs8⟩ : W8_.cell? ⟨h0, 0, none⟩ = some (.pointer (some ⟨g, 0, none⟩)) ∧ W8_.cell? ⟨s0, 0, none⟩ = some (.int .i64 (bl : Int)))
  have HSZ := Lib.hid (⟨hz3, hz36, hs0l⟩ : w.heap.size ≤ W3.heap.size ∧ W3.heap.size ≤ W6.heap.size ∧ s0 < W3.heap.size)
  clear hch hR8 ho8 hs8 hb06 hz68 hs6 hown6 hlow6 hz6 hR6 hR7 ho7 hb36 hz3 hz36 hs0l cs6 hh0w hs0w hp5 e5 hb6
  go_wp2_with fail
  gi_wp2_with fail
  refine ⟨trivial, (callsIn_wide.2 HCH.out).mono ?_⟩
  rintro e W9 ⟨g1, g2, v9, rfl, hg1l, hg12, hrg1, hrg2, hown9, hne9, hb9⟩
  have hz9 := hb9.size
  have hz68 := HZ68.out
  have hsz := HSZ.out
  have hb09 := HB6.out.trans ((Below.refl _ _).mono (Nat.le_refl _))
  have hR9 := HR8.out.later hb9
  have hq : bl * (msg.length / bl) + r = msg.length := by rw [← HR.out]; exact Nat.div_add_mod _ _
  obtain ⟨q, hqe⟩ : ∃ q, msg.length / bl = q := ⟨_, rfl⟩
  rw [hqe] at hq
  obtain ⟨nx, hnx⟩ : ∃ l, left.take r ++ xs = l := ⟨_, rfl⟩
  have hnxd : nx = (msg ++ xs).drop (bl * q) := by
    have h1 := hleft
    rw [HBL.out, HR.out, hqe] at h1
    rw [← hnx, h1, List.drop_append_of_le_length (by omega)]
  have hnxl : nx.length = r + xs.length := by rw [hnxd, List.length_drop, List.length_append]; omega
  rw [hnx] at hown9
  have hseq := chunks1_in 8 (by decide) W9 W8_.heap.size g1 g2 v9 (r + xs.length) nx (bl : Int) (by omega) (by omega) hrg1 hrg2 (by
    obtain ⟨ha, hb⟩ := hown9
    exact ⟨ha, hb.imp id (fun ⟨g, cap, cur, e, hbase, hh, r⟩ => ⟨g, cap, cur, e, by omega, hh, r⟩)⟩) (by omega) (by have := HBL2.out; omega)
  rw [Int.toNat_natCast] at hseq
  have HSEQ := Lib.hid hseq
  have HB9 := Lib.hid hb9
  have HR9 := Lib.hid hR9
  have HNX := Lib.hid (⟨hnxd, hnxl⟩ : nx = (msg ++ xs).drop (bl * q) ∧ nx.length = r + xs.length)
  have HQ := Lib.hid (⟨hq, hqe⟩ : bl * q + r = msg.length ∧ msg.length / bl = q)
  have hgl8 : g < W8_.heap.size := by omega
  clear hseq hb9 hR9 hnxd hnxl hq hqe hown9 hne9 hrg1 hrg2 hz9 hz68 hsz hb09 hnx hlen hg1l hg12
  gi_wp2_with fail
  refine wpIn_rangeP rfl (by decide) (gf := 130) (lb := #[.pointer (some ⟨g1, 0, none⟩), .pointer (some ⟨g2, 0, none⟩)]) rfl trivial (enters_of Tryd.func130 (by kernel_rfl) rfl)
    HSEQ.out (fun a b => a.trans b) (fun W l o o' hl ho _ _ => KpC.put hl ho) (fun _ => rfl)
    (WI W9 g k (msg ++ xs) q nx) (fun _ _ _ => False) (WI.own _ _ _ _ _ _) (fun _ _ _ _ _ h _ _ => h.elim) (fun pre => ChR.own _ _ _ _ pre) ?hI0 ?a1x ?assign ?body ?done ?stop
  case hI0 =>
    refine ⟨OnlyV.refl _ _, ?_⟩
    have h := HR9.out
    rw [List.length_nil, Nat.zero_min, Nat.add_zero, if_neg (Nat.not_lt_zero _), List.length_append, chainV_front _ _ _ _ _ (by rw [HBL.out]; have := HQ.out.1; omega)]
    rw [HBL.out, HQ.out.2] at h
    exact h
  case assign =>
    intro l x W K hK
    gi_wp2
    exact hK
  case body =>
    rintro l pre ⟨i, Ap, np, cp⟩ W ⟨hO, hH⟩ ⟨hxi, hxl, hsx, hlow⟩ hpl
    dsimp only at hxi hsx hlow
    subst hxi
    have hnp : np = (pieceL nx bl pre.length).length := by simpa using hsx.len
    have hpc : (pieceL nx bl pre.length).length = min bl (nx.length - bl * pre.length) := by simp [pieceL]
    have hz9 := HB9.out.size
    have hcW := (hO.cell (p := ⟨h0, 0, none⟩) (by have := HSZ.out; have := HZ68.out; show h0 < _; omega) (by show h0 ≠ g; omega)).trans ((HB9.out.cell (p := ⟨h0, 0, none⟩) (by have := HSZ.out; have := HZ68.out; show h0 < _; omega)).trans HCS.out.1)
    have hsW := (hO.cell (p := ⟨s0, 0, none⟩) (by have := HSZ.out; have := HZ68.out; show s0 < _; omega) (by show s0 ≠ g; omega)).trans ((HB9.out.cell (p := ⟨s0, 0, none⟩) (by have := HSZ.out; have := HZ68.out; show s0 < _; omega)).trans HCS.out.2)
    have hGW : RootsG W := (((hG.later HB6.out).only HO8.out hg1).later HB9.out).only hO hg1
    have hbl1 : 0 < bl := by omega
    have hblN := HBL.out
    have h128 := HBL2.out
    by_cases hfull : bl ≤ nx.length - bl * pre.length
    · obtain rfl : np = bl := by omega
      have hj : pre.length < nx.length / np := by
        refine (Nat.le_div_iff_mul_le hbl1).2 ?_
        rw [Nat.mul_comm, Nat.mul_succ]
        omega
      obtain ⟨b, off, v0, rfl, hb, hv0, _⟩ := hsx.at_ (k := 0) (by omega)
      rw [hblN, if_neg (by omega), Nat.min_eq_left (by omega)] at hH
      have htk := take_any W g k hk _ _ _ hH W.heap.size b off np cp _ hsx (by rw [blN_eq hk, hblN]) (Nat.le_refl _) hGW
      have HTK := Lib.hid htk
      have HJ := Lib.hid hj
      have HN := Lib.hid hnp
      clear hv0 htk hsx hlow hxl hnp hpc hblN h128 hrm hbl0 hblI hj hfull hpl
      gi_wp2_with fail
      refine ⟨trivial, (CallsIn.inRound l (callsIn_wide.2 HTK.out)).mono ?_⟩
      rintro e W2 ⟨rfl, hH2, hO2⟩
      gi_wp2
      have hgl9 : g < W9.heap.size := by have := HB9.out.size; omega
      refine ⟨⟨hO2.size, fun k o hk hh _ => (hO2.block k (Array.getElem?_eq_some_iff.1 hh).1 (fun e => by injection e; omega)).trans hh⟩, KpC.only hO2 hgl8 hO.size, hO.trans hO2, ?_⟩
      have hJ := HJ.out
      rw [List.length_append, List.length_singleton, HBL.out, if_neg (by omega), Nat.min_eq_left (by omega), ← Nat.add_assoc, chainV, HBL.out, ← pieceL_drop, ← HNX.out.1]
      exact hH2
    · have hj1 : nx.length / bl = pre.length := Nat.div_eq_of_lt_le (by rw [Nat.mul_comm]; omega) (by rw [Nat.mul_comm, Nat.mul_add]; omega)
      rw [hblN, hj1, if_neg (by omega), Nat.min_self] at hH
      obtain ⟨b, off, v0, rfl, hb, hv0, _⟩ := hsx.at_ (k := 0) (by omega)
      obtain ⟨pc, hpcE⟩ : ∃ l, pieceL nx bl pre.length = l := ⟨_, rfl⟩
      rw [hpcE] at hsx hnp hpc
      have hp128 : pc.length ≤ 128 := by omega
      have hpb : ¬ pc.length = bl := by omega
      subst hnp
      obtain ⟨xsW, hxsW⟩ : ∃ l, pc.map W8 = l := ⟨_, rfl⟩
      have hxl2 : xsW.length = pc.length := by rw [← hxsW, List.length_map]
      have hcp : ∀ ty, (Builtin.copy_ #[22, 22] ty #[.slice (some ⟨g, 10, none⟩) 128 128, .slice (some ⟨b, off, none⟩) pc.length cp]).run Tryd.prog W = .ok (goInt xsW.length) (W.setCells g 10 xsW) := fun ty => by
        obtain ⟨i0, hi, hz0, hz1, hz2⟩ := info_parts Tryd.elem8.info
        refine run_copy_cells W _ _ ty 5 g 10 128 128 ⟨b, off, none⟩ pc.length cp xsW Tryd.underlying22 (by rw [hi]; simp [hz1]) (by rw [hxl2]; exact (Nat.min_eq_left hp128).symm) (fun j v hv => ?_) (fun j hj => ?_) (fun j hj => hH.row.frozen _) (by rw [← hxsW]; exact ones8 pc)
        · obtain ⟨b', off', e, _, hc⟩ := hsx.2.2.2 (by rw [hxsW]; intro e; rw [e] at hv; simp at hv)
          injection e with e
          injection e with e1 e2
          subst e1 e2
          rw [Addr.add_lit]
          exact hc j v (by rw [hxsW]; exact hv)
        · rw [hH.left_ (j := j) (x := (List.replicate 128 (0 : BitVec 8))[j]'(by simp; omega)) (List.getElem?_eq_getElem _)]; rfl
      obtain ⟨W2, e2⟩ : ∃ V, W.setCells g 10 xsW = V := ⟨_, rfl⟩
      have hO2 : OnlyV W W2 g := by rw [← e2]; exact OnlyV.sets _ _ _ (OnlyV.refl _ _)
      have hH2 := hH.putLeft pc hp128
      rw [hxsW, e2] at hH2
      rw [e2] at hcp
      have HH2 := Lib.hid hH2
      have HPC := Lib.hid hpcE
      have HJ1 := Lib.hid hj1
      have hpbI : ¬ (pc.length : Int) = (bl : Int) := by omega
      clear hv0 hsx hlow hxl hpc hblN h128 hrm hbl0 hblI hj1 hfull hpl hxl2 hxsW e2 hH2 hpcE
      gi_wp2
      have hgl9 : g < W9.heap.size := by have := HB9.out.size; omega
      refine ⟨⟨hO2.size, fun k o hk hh _ => (hO2.block k (Array.getElem?_eq_some_iff.1 hh).1 (fun e => by injection e; omega)).trans hh⟩, KpC.only hO2 hgl8 hO.size, hO.trans hO2, ?_⟩
      rw [List.length_append, List.length_singleton, HBL.out, HJ1.out, if_pos (by omega), Nat.min_eq_right (by omega), HPC.out]
      exact HH2.out
  case done =>
    rintro D ys W hD ⟨hys, _⟩ ⟨hO, hH⟩ hK
    have hw := write_left (msg ++ xs) nx bl q ys.length (by omega) (by rw [List.length_append]; have := HQ.out.1; omega) HNX.out.1 (by have := hys (by omega); rwa [Int.toNat_natCast] at this)
    have HW := Lib.hid hw
    clear hw hys
    gi_wp2
    refine ⟨by simp, .inl ⟨_, _, rfl, run_takeDeferred hK, ?_⟩⟩
    have hgr := grownBy_putObj' W D (.deferred none)
    have hnc : ∀ r, some D = some r → ∃ o : Obj, W.heap[r]? = some o ∧ o.isCells = false := fun r e => by cases e; exact ⟨_, hK, rfl⟩
    have hz9 := HB9.out.size
    have hz68 := HZ68.out
    refine ⟨.tuple #[], by simp [results, Tryd.f79, go_sem], rfl, ?_, ?_⟩
    · rw [HBL.out, Nat.min_eq_right HW.out.2.2, ← HW.out.2.1, ← HBL.out] at hH
      have hl := HW.out.1
      rw [← HBL.out] at hl
      exact ⟨_, hH.kept hgr hnc, hl⟩
    · have h1 : OnlyV w W9 g := ((OnlyV.of_below HB6.out g).trans HO8.out).trans (OnlyV.of_below HB9.out g)
      exact (h1.trans hO).grown hgr (fun r e => by cases e; have := HB6.out.size; omega)
  case stop =>
    intro D c pre W _ _ h
    exact h.elim
end Go.Proofs.YtnpaidieijlkkaaDoor

/- hashes: Sum. -/
set_option linter.unusedVariables false
set_option linter.unusedSimpArgs false
namespace Go.Proofs.YtnpaidieijlkkaaDoor
open Go.RowKit Go.Shelf

/-- a hash's length -/
def szN (k : Int) : Nat := if k = 1 then 20 else if k = 2 then 28 else if k = 3 then 32 else if k = 4 then 48 else if k = 5 then 64 else 0
theorem szN_eq {k : Int} (h : KindOk k) : sizeV k = (szN k : Int) := by rcases h.cases with rfl | rfl | rfl | rfl | rfl <;> rfl
theorem szN_le {k : Int} (h : KindOk k) : 20 ≤ szN k ∧ szN k ≤ blN k / 16 * 8 ∧ szN k ≤ 64 := by rcases h.cases with rfl | rfl | rfl | rfl | rfl <;> decide
/-- the i-th byte of the words -/
def outB (wd : Nat) (ws : List (BitVec 64)) (i : Nat) : BitVec 8 := (ws.getD (i / wd) 0 >>> (8 * (wd - 1 - i % wd))).setWidth 8
def outL (k : Int) (ws : List (BitVec 64)) : List (BitVec 8) := (List.range (szN k)).map (outB (blN k / 16) ws)
theorem outL_length (k : Int) (ws : List (BitVec 64)) : (outL k ws).length = szN k := by simp [outL]
/-- a message with its padding -/
def padM (k : Int) (msg : List (BitVec 8)) : List (BitVec 8) := msg ++ padL msg.length (blN k)
/-- a message's hash, as the program reckons it -/
def sumL (k : Int) (msg : List (BitVec 8)) : List (BitVec 8) := outL k (chainV k (startsL k) (padM k msg) ((padM k msg).length / blN k))
theorem sumL_length (k : Int) (msg : List (BitVec 8)) : (sumL k msg).length = szN k := outL_length _ _
theorem padL_length (len bl : Nat) : (padL len bl).length = padN len bl := padStep_length _ _ _
theorem padN_le (len bl : Nat) : padN len bl ≤ bl + bl / 8 := by unfold padN; omega
theorem padding_any (w : World) (k : Int) (len : Nat) (hlen : len < 576460752303423488) :
    Calls Tryd.prog 105 #[.int .i64 (len : Int), .int .i64 (blN k : Int)] w fun e w' => e = .returned (.slice (some ⟨w.heap.size, 0, none⟩) (padN len (blN k)) (padN len (blN k))) ∧ RowV 5 w' w.heap.size ((padL len (blN k)).map W8) ∧ Below w.heap.size w w' := by
  rcases blN_two k with h | h <;> rw [h]
  · exact padding64 w len hlen
  · exact padding128 w len hlen

theorem sum_nil (w : World) : Calls Tryd.prog 80 #[.pointer none] w fun e w' => e = .returned (.slice none 0 0) ∧ w = w' := by
  have hw := works_nil w
  have HW := Lib.hid hw
  clear hw
  go_enter Tryd.func80, Tryd.ntmps80
  go_wp2_with fail
  refine HW.out.mono ?_
  rintro e w' ⟨rfl, rfl⟩
  go_wp2
  go_ret
  exact ⟨rfl, rfl⟩

set_option maxRecDepth 100000 in
set_option maxHeartbeats 2000000 in
theorem sum_any (w : World) (g : Nat) (k : Int) (hk : KindOk k) (msg : List (BitVec 8)) (hh : HashIs w g k msg) (hG : RootsG w) (hlen : msg.length + 256 ≤ 17592186044416) :
    Calls Tryd.prog 80 #[.pointer (some ⟨g, 0, none⟩)] w fun e w' => ∃ b, e = .returned (.slice (some ⟨b, 0, none⟩) (szN k) (szN k)) ∧ w.heap.size ≤ b ∧ RowV 5 w' b ((sumL k msg).map W8) ∧ Below w.heap.size w w' := by
  obtain ⟨left, hR, hleft⟩ := hh
  have hwk := works_yes w g k hk _ _ _ hR
  have hcp := copy_any w g k _ _ _ hR
  have hkc := hR.kind
  obtain ⟨bl, hbl⟩ : ∃ b, blN k = b := ⟨_, rfl⟩
  have HWK := Lib.hid hwk
  have HCP := Lib.hid hcp
  have HR := Lib.hid hR
  have HG := Lib.hid hG
  have HBL := Lib.hid hbl
  clear hwk hcp hR hG
  go_enter Tryd.func80, Tryd.ntmps80
  go_wp2_with fail
  refine HWK.out.mono ?_
  rintro e w' ⟨rfl, rfl⟩
  go_wp2_with fail
  refine HCP.out.mono ?_
  rintro e W1 ⟨rfl, hR1, hb1⟩
  obtain ⟨g1, hg1⟩ : ∃ g, w.heap.size = g := ⟨_, rfl⟩
  rw [hg1] at hR1 hb1
  have hR0 := HR.out.later (hg1 ▸ hb1)
  have ck1 := hR0.kind
  have cl1 := hR0.length_
  have hbk : ∀ w, Calls Tryd.prog 101 #[.int .i64 k] w fun e w' => e = .returned (.int .i64 (bl : Int)) ∧ w = w' := fun w => by
    have h := block_any w k
    rw [blN_eq hk, HBL.out] at h
    exact h
  have hpd : ∀ w, Calls Tryd.prog 105 #[.int .i64 (msg.length : Int), .int .i64 (bl : Int)] w fun e w' => e = .returned (.slice (some ⟨w.heap.size, 0, none⟩) (padN msg.length bl) (padN msg.length bl)) ∧ RowV 5 w' w.heap.size ((padL msg.length bl).map W8) ∧ Below w.heap.size w w' := fun w => by
    have h := padding_any w k msg.length (by omega)
    rw [HBL.out] at h
    exact h
  have hpl := padN_le msg.length bl
  have hbl2 := blN_two k
  rw [HBL.out] at hbl2
  have hg1s : 4 < g1 := by have := HG.out.1; omega
  have hws : ∀ (w3 : World), Below W1.heap.size W1 w3 → RowV 5 w3 W1.heap.size ((padL msg.length bl).map W8) → Calls Tryd.prog 79 #[.pointer (some ⟨g1, 0, none⟩), .slice (some ⟨W1.heap.size, 0, none⟩) (padN msg.length bl) (padN msg.length bl)] w3 fun e w' => e = .returned (.tuple #[]) ∧ HashIs w' g1 k (padM k msg) ∧ OnlyV w3 w' g1 := fun w3 hb hr => by
    have hs := hr.sl (by rw [List.length_map, padL_length]; omega)
    rw [List.length_map, padL_length] at hs
    have hGW : RootsG w3 := (HG.out.later (by rw [hg1]; exact hb1)).later hb
    have h := write_any w3 g1 k hk msg (padL msg.length bl) ⟨left, hR1.later hb, hleft⟩ w3.heap.size _ _ _ hs (by intro h; cases h) (Nat.le_refl _) hGW hg1s (by rw [padL_length]; omega)
    rw [padM, HBL.out]
    exact h
  have HBK := Lib.hid hbk
  have HPD := Lib.hid hpd
  have HWS := Lib.hid hws
  have HB1 := Lib.hid hb1
  have HG1 := Lib.hid hg1
  have HR1 := Lib.hid hR1
  have hgl := HR.out.row.lt
  have hgl1 : g < W1.heap.size := by have := hb1.size; omega
  have hgg : g ≠ g1 := by omega
  clear hbk hpd hws hb1 hR0 hR1 hpl hbl2 hleft hbl hkc
  go_wp2_with fail
  go_region_held3 (fun w' => w'.cell? ⟨g, 0, none⟩ = some (.int .i64 k) ∧ w'.cell? ⟨g, 9, none⟩ = some (.int .i64 (msg.length : Int))) (go_keep)
    (first | (go_at_call 101; refine (HBK.out _).mono ?_; rintro e w' ⟨rfl, rfl⟩) | (go_at_call 105; refine (HPD.out _).mono ?_; rintro e w3 ⟨rfl, hr3, hb3⟩; have hb3 : Below W1.heap.size W1 w3 := ⟨hb3.os, hb3.tape, hb3.output, hb3.size, fun i hi => hb3.block i hi⟩; have hr3 : RowV 5 w3 W1.heap.size ((padL msg.length bl).map W8) := hr3; have k3 := (hb3.cell (p := ⟨g, 0, none⟩) hgl1).trans ck1; have l3 := (hb3.cell (p := ⟨g, 9, none⟩) hgl1).trans cl1; have hgl3 : g < w3.heap.size := Nat.lt_of_lt_of_le hgl1 hb3.size) | (go_at_call 79; refine (HWS.out _ hb3 hr3).mono ?_; rintro e w4 ⟨rfl, hH4, hO4⟩; have k4 := (hO4.cell (p := ⟨g, 0, none⟩) hgl3 hgg).trans k3; have l4 := (hO4.cell (p := ⟨g, 9, none⟩) hgl3 hgg).trans l3))
  obtain ⟨lf, hRW, _⟩ := hH4
  obtain ⟨ws, hws2⟩ : ∃ l, chainV k (startsL k) (padM k msg) ((padM k msg).length / blN k) = l := ⟨_, rfl⟩
  rw [hws2] at hRW
  have hwl := hRW.hw
  have hra := hRW.words
  have hsz := szN_le hk
  obtain ⟨wd, hwd⟩ : ∃ d, bl / 16 = d := ⟨_, rfl⟩
  obtain ⟨sz, hszE⟩ : ∃ d, szN k = d := ⟨_, rfl⟩
  have hbl2 := blN_two k
  rw [HBL.out] at hsz hbl2
  rw [hwd, hszE] at hsz
  have hwd2 : wd = 4 ∨ wd = 8 := by omega
  have hdv : ((bl : Int)).tdiv 16 = (wd : Int) := by rw [Int.tdiv_eq_ediv_of_nonneg (by omega)]; omega
  have hsk := size_any w4 k
  rw [szN_eq hk, hszE] at hsk
  obtain ⟨D, hD⟩ : ∃ l, (List.range sz).map (outB wd ws) = l := ⟨_, rfl⟩
  have hDl : D.length = sz := by rw [← hD]; simp
  have hDs : sumL k msg = D := by rw [sumL, outL, hws2, hszE, HBL.out, hwd, hD]
  have hDg : ∀ i, i < sz → D[i]? = some (outB wd ws i) := fun i hi => by rw [← hD, List.getElem?_map, List.getElem?_range hi]; rfl
  have HSK := Lib.hid hsk
  have hb04 : Below w.heap.size w w4 := (((hg1 ▸ HB1.out).trans (hb3.mono (by have := HB1.out.size; omega))).trans (hO4.below (by omega) (by have := hb3.size; have := HB1.out.size; omega)))
  have HB04 := Lib.hid hb04
  have HG4 := Lib.hid hRW.row.lt
  have HDL := Lib.hid hDl
  have HSZE := Lib.hid hszE
  have HDG := Lib.hid hDg
  have HDS := Lib.hid hDs
  have HWD := Lib.hid hwd2
  have hwd8 : (wd : Int) ≤ 8 := by omega
  have hwd1 : (1 : Int) ≤ wd := by omega
  have HSZ := Lib.hid hsz
  have hszI : (sz : Int) ≤ 64 := by omega
  have HKW := Lib.hid hk
  obtain ⟨b, hb⟩ : ∃ b, w4.heap.size = b := ⟨_, rfl⟩
  have hbk4 := HBK.out w4
  have HBK4 := Lib.hid hbk4
  clear hsk hDl hDg hDs hwd2 hsz hbl2 hszE hwd hws2 hD hb04 hbk4 hr3 hO4 hb3 hRW hg1 hlen ck1 cl1 k3 l3 l4
  go_wp2_with fail
  refine HBK4.out.mono ?_
  rintro e w' ⟨rfl, rfl⟩
  go_wp2_with fail
  refine HSK.out.mono ?_
  rintro e w' ⟨rfl, rfl⟩
  go_wp2_with (at_make; refine wlv_make Tryd.elem8 rfl _ rfl _ sz rfl rfl (by omega) ?_; intro w5 hr5 hb5 hz5; rw [hb] at hr5 hb5)
  have hr0 : RowV 5 w5 b ((D.take 0 ++ (List.replicate sz (0 : BitVec 8)).drop 0).map W8) := by
    simp only [List.take_zero, List.nil_append, List.drop_zero, List.map_replicate]; exact hr5
  have hb1s : g1 < b := by rw [← hb]; exact HG4.out
  clear hr5 hz5
  go_loopw [38] (fun i wr => ∃ j : Nat, j ≤ sz ∧ i = .int .i64 (j : Int) ∧ RowV 5 wr b ((D.take j ++ (List.replicate sz (0 : BitVec 8)).drop j).map W8) ∧ Below b w4 wr) (fun i _ => sz - (intOf i).toNat)
  case atStart => exact ⟨0, by omega, rfl, hr0, hb5⟩
  case round =>
    clear hr0 hb5
    obtain ⟨j, hj, rfl, hr, hbw⟩ := hrel
    by_cases hjn : j = sz
    · subst hjn
      rw [List.take_of_length_le (Nat.le_of_eq HDL.out), List.drop_eq_nil_of_le (by simp), List.append_nil] at hr
      have HR := Lib.hid hr
      have HBB := Lib.hid hbw
      clear hr hbw
      go_wp2
      go_ret
      rw [HDS.out, HSZE.out]
      refine ⟨b, rfl, ?_, HR.out, ?_⟩
      · rw [← hb]; exact HB04.out.size
      · exact HB04.out.trans (HBB.out.mono (by rw [← hb]; exact HB04.out.size))
    · have hji : (j : Int) < sz := by omega
      obtain ⟨q, hq⟩ : ∃ q, j / wd = q := ⟨_, rfl⟩
      obtain ⟨m, hm⟩ : ∃ m, j % wd = m := ⟨_, rfl⟩
      have hwdP : 0 < wd := by omega
      have hq8 : q < 8 := by rw [← hq]; exact (Nat.div_lt_iff_lt_mul hwdP).2 (by have := HSZ.out; rw [Nat.mul_comm]; omega)
      have hml : m < wd := by rw [← hm]; exact Nat.mod_lt _ hwdP
      have t1 : (j : Int).tdiv (wd : Int) = (q : Int) := by rw [Int.tdiv_eq_ediv_of_nonneg (by omega), ← hq]; simp
      have t2 : (j : Int).tmod (wd : Int) = (m : Int) := by rw [Int.tmod_eq_emod_of_nonneg (by omega), ← hm]; simp
      obtain ⟨s, hs⟩ : ∃ s, wd - 1 - m = s := ⟨_, rfl⟩
      have t3 : (wd : Int) - 1 - (m : Int) = (s : Int) := by omega
      have hs8 : (s : Int) ≤ 7 := by omega
      have hmI : (m : Int) ≤ 7 := by omega
      have hqI : (q : Int) < 8 := by omega
      obtain ⟨x, hx⟩ : ∃ x, ws[q]? = some x := ⟨_, List.getElem?_eq_getElem (by omega)⟩
      have hcl : wr.cell? ⟨g1, 1 + q, none⟩ = some (W64 x) := (hbw.cell (p := ⟨g1, 1 + q, none⟩) hb1s).trans (hra q (W64 x) (by rw [List.getElem?_map, hx]; rfl))
      have hob : outB wd ws j = (x >>> (8 * s)).setWidth 8 := by rw [outB, hq, hm, hs, List.getD_eq_getElem?_getD, hx]; rfl
      have hfz := hr.frozen j
      have hr2 := hr.set j (W8 (outB wd ws j))
      rw [← List.map_set, mid_set _ _ _ _ (HDG.out j (by omega)) (by simp; omega)] at hr2
      have hB2 := below_setV hbw.drew (Nat.le_refl b) j (W8 (outB wd ws j))
      obtain ⟨W7, e7⟩ : ∃ W, wr.drew = W := ⟨_, rfl⟩
      have hst : wr.cell? ⟨b, j, none⟩ = some (W8 0) := hr.at_ (by rw [List.getElem?_map, mid_get _ _ _ (by have := HDL.out; omega), List.getElem?_replicate, if_pos (by omega)]; rfl)
      have hcl7 : W7.cell? ⟨g1, 1 + q, none⟩ = some (W64 x) := by rw [← e7]; exact hcl
      have hst7 : W7.cell? ⟨b, j, none⟩ = some (W8 0) := by rw [← e7]; exact hst
      have hfz7 : W7.frozen? ⟨b, j, none⟩ = false := by rw [← e7]; exact hfz
      have hr7 : RowV 5 (W7.setCell ⟨b, j, none⟩ (W8 (outB wd ws j))) b ((D.take (j + 1) ++ (List.replicate sz (0 : BitVec 8)).drop (j + 1)).map W8) := by rw [← e7]; exact hr2
      have hB7 : Below b w4 (W7.setCell ⟨b, j, none⟩ (W8 (outB wd ws j))) := by rw [← e7]; exact hB2
      rw [hob] at hr7 hB7
      have HR7 := Lib.hid hr7
      have HB7 := Lib.hid hB7
      have hwd0 : ¬ wd = 0 := by omega
      have w1 : IntKind.i64.wrap (q : Int) = q := by rw [IntKind.wrap_i64]; omega
      have w2 : IntKind.i64.wrap (m : Int) = m := by rw [IntKind.wrap_i64]; omega
      have w3 : IntKind.i64.wrap (s : Int) = s := by rw [IntKind.wrap_i64]; omega
      have hs56 : (8 : Int) * (s : Int) ≤ 56 := by omega
      have w4' : IntKind.i64.wrap ((8 : Int) * (s : Int)) = (8 * s : Nat) := by rw [IntKind.wrap_i64]; omega
      have w5' : IntKind.i64.wrap ((wd : Int) - 1) = (wd : Int) - 1 := by rw [IntKind.wrap_i64]; omega
      have b64s := b64_shr x
      have c8 := c64_8
      clear hr2 hB2 hr hbw hst hfz hcl hx hob hq hm hs hjn hr7 hB7
      go_wp2
      refine wp_region_still_tail 20 (by kernel_rfl) (by kernel_rfl) ?_
      simp only [List.take_succ_cons, List.take_zero, List.drop_succ_cons, List.drop_zero]
      show wpStill _ _ wr.drew (fun a' => wpList _ _ _ _ a' wr.drew) _ _
      rw [e7]
      iterate 20 (refine wpStill_step (fun K hK => ?_); go_simp; refine hK _ ?_; clear hK K)
      refine wpStill_nil ?_
      go_wp2
      go_roundw
      case rel => exact ⟨j + 1, by omega, by go_num, HR7.out, HB7.out⟩
      case measure => simp [intOf]; omega
end Go.Proofs.YtnpaidieijlkkaaDoor

/- hashes: Of. -/
set_option linter.unusedVariables false
set_option linter.unusedSimpArgs false
namespace Go.Proofs.YtnpaidieijlkkaaDoor
open Go.RowKit Go.Shelf

/-- the slice from A on holds slices that read these byte lists -/
def PartsV (w : World) (B : Nat) (A : Option Addr) (n c : Nat) (pss : List (List (BitVec 8))) : Prop :=
  ∃ vs, SlV w B A n c vs ∧ vs.length = pss.length ∧ ∀ (i : Nat) (v : Value) (ps : List (BitVec 8)), vs[i]? = some v → pss[i]? = some ps → ∃ Ai ni ci, v = .slice Ai ni ci ∧ SlV w B Ai ni ci (ps.map W8) ∧ (Ai = none → ci = 0)
theorem PartsV.below {w w' : World} {B n c : Nat} {A : Option Addr} {pss : List (List (BitVec 8))} (h : PartsV w B A n c pss) (hb : Below B w w') : PartsV w' B A n c pss := by
  obtain ⟨vs, h1, h2, h3⟩ := h
  exact ⟨vs, h1.below hb, h2, fun i v ps hv hp => by
    obtain ⟨Ai, ni, ci, e, hs, hz⟩ := h3 i v ps hv hp
    exact ⟨Ai, ni, ci, e, hs.below hb, hz⟩⟩
theorem PartsV.at_ {w : World} {B n c : Nat} {A : Option Addr} {pss : List (List (BitVec 8))} (h : PartsV w B A n c pss) {i : Nat} (hi : i < n) :
    ∃ b off ps Ai ni ci, A = some ⟨b, off, none⟩ ∧ b < B ∧ pss[i]? = some ps ∧ w.cell? ⟨b, off + i, none⟩ = some (.slice Ai ni ci) ∧ SlV w B Ai ni ci (ps.map W8) ∧ (Ai = none → ci = 0) := by
  obtain ⟨vs, h1, h2, h3⟩ := h
  obtain ⟨b, off, v, e, hb, hv, hc⟩ := h1.at_ hi
  have hip : i < pss.length := by have := (List.getElem?_eq_some_iff.1 hv).1; omega
  obtain ⟨Ai, ni, ci, rfl, hs, hz⟩ := h3 i v _ hv (List.getElem?_eq_getElem hip)
  exact ⟨b, off, _, Ai, ni, ci, e, hb, List.getElem?_eq_getElem hip, hc, hs, hz⟩
theorem PartsV.len {w : World} {B n c : Nat} {A : Option Addr} {pss : List (List (BitVec 8))} (h : PartsV w B A n c pss) : n = pss.length := by
  obtain ⟨vs, h1, h2, _⟩ := h
  rw [h1.len, h2]
theorem PartsV.nil (w : World) (B : Nat) (A : Option Addr) {c : Nat} (h : c ≤ 9223372036854775807) : PartsV w B A 0 c [] := ⟨[], SlV.nil _ _ _ h, rfl, fun i v ps hv => by simp at hv⟩

theorem hashIs_new {w : World} {g : Nat} {k : Int} (h : HashR w g k (startsL k) 0 (List.replicate 128 0)) : HashIs w g k [] := ⟨_, by simpa [chainV] using h, by simp⟩
theorem new_is (w : World) (k : Int) (hk : KindOk k) (hG : StartsG w) :
    Calls Tryd.prog 78 #[.int .i64 k] w fun e w' => e = .returned (.pointer (some ⟨w.heap.size, 0, none⟩)) ∧ HashIs w' w.heap.size k [] ∧ Below w.heap.size w w' := by
  obtain ⟨n, rfl⟩ : ∃ n : Nat, k = (n : Int) := ⟨k.toNat, by unfold KindOk at hk; omega⟩
  refine (new_any w n hk hG).mono ?_
  rintro e w' ⟨rfl, h, hb⟩
  exact ⟨rfl, hashIs_new h, hb⟩
theorem copy_is (w : World) (g : Nat) (k : Int) (msg : List (BitVec 8)) (h : HashIs w g k msg) :
    Calls Tryd.prog 104 #[.pointer (some ⟨g, 0, none⟩)] w fun e w' => e = .returned (.pointer (some ⟨w.heap.size, 0, none⟩)) ∧ HashIs w' w.heap.size k msg ∧ Below w.heap.size w w' := by
  obtain ⟨left, h1, h2⟩ := h
  refine (copy_any w g k _ _ _ h1).mono ?_
  rintro e w' ⟨rfl, h, hb⟩
  exact ⟨rfl, ⟨left, h, h2⟩, hb⟩
set_option maxRecDepth 100000 in
theorem write_nil (w : World) (v : Value) : Calls Tryd.prog 79 #[.pointer none, v] w fun e w' => e = .returned (.tuple #[]) ∧ Below w.heap.size w w' := by
  obtain ⟨W1, e1, r1, b1, z1⟩ := newV w 98 [.pointer none] #[.pointer none] rfl
  have hwk := works_nil W1
  have HWK := Lib.hid hwk
  obtain ⟨h0, hh0⟩ : ∃ g, w.heap.size = g := ⟨_, rfl⟩
  have c0 : W1.cell? ⟨h0, 0, none⟩ = some (.pointer none) := by rw [← hh0]; exact r1.at_ rfl
  clear hwk r1 z1
  have HB1 := Lib.hid b1
  clear b1
  refine (callsIn_wide (n := 9)).1 ?_
  refine callsIn_of_wp_marks Tryd.func79 rfl trivial ?_ rfl
  simp only [Tryd.ntmps79, List.size_toArray, List.length_cons, List.length_nil, Nat.reduceAdd, Nat.reduceSub, Array.replicate_succ, Array.replicate_zero, List.push_toArray, List.append_toArray, List.nil_append, List.cons_append]
  gi_wp2_with fail
  refine ⟨trivial, (callsIn_wide.2 HWK.out).mono ?_⟩
  rintro e w' ⟨rfl, rfl⟩
  gi_wp2
  refine ⟨.tuple #[], by simp [results, Tryd.f79, go_sem], rfl, ?_⟩
  exact HB1.out

set_option maxRecDepth 100000 in
set_option maxHeartbeats 1000000 in
theorem hof_any (w : World) (k : Int) (hk : KindOk k) (hG : StartsG w) (hR : RootsG w) (B : Nat) (A : Option Addr) (n c : Nat) (pss : List (List (BitVec 8))) (hs : PartsV w B A n c pss) (hB : B ≤ w.heap.size) (hn : n ≤ 17592186044416) (hlen : pss.flatten.length + 256 ≤ 17592186044416) :
    Calls Tryd.prog 54 #[.int .i64 k, .slice A n c] w fun e w' => ∃ b, e = .returned (.slice (some ⟨b, 0, none⟩) (szN k) (szN k)) ∧ w.heap.size ≤ b ∧ RowV 5 w' b ((sumL k pss.flatten).map W8) ∧ Below w.heap.size w w' := by
  have hnw := new_is w k hk hG
  obtain ⟨g, hg⟩ : ∃ g, w.heap.size = g := ⟨_, rfl⟩
  rw [hg] at hnw
  have HNW := Lib.hid hnw
  have hg1 : 4 < g := by have := hR.1; omega
  have HS := Lib.hid hs
  have HR := Lib.hid hR
  have HLEN := Lib.hid hlen
  have hnl := hs.len
  have HNL := Lib.hid hnl
  have hnI : (n : Int) ≤ 17592186044416 := by omega
  clear hnw hs hR hlen hnl hn
  go_enter Tryd.func54, Tryd.ntmps54
  go_wp2_with fail
  refine HNW.out.mono ?_
  rintro e w1 ⟨rfl, hh1, hb1⟩
  go_wp2
  go_loopw [12] (fun i wr => ∃ j : Nat, j ≤ n ∧ i = .int .i64 (j : Int) ∧ Hid (HashIs wr g k (pss.take j).flatten) ∧ Hid (Below g w wr)) (fun i _ => n - (intOf i).toNat)
  case atStart => exact ⟨0, by omega, rfl, Lib.hid (by simpa using hh1), Lib.hid hb1⟩
  case round =>
    clear hh1 hb1
    obtain ⟨j, hj, rfl, hh, hb⟩ := hrel
    have hbw : Below w.heap.size w wr := by rw [hg]; exact hb.out
    have hGR := HR.out.later hbw
    have HGR := Lib.hid hGR
    have HBW := Lib.hid hbw
    clear hbw hGR
    by_cases hjn : j = n
    · subst hjn
      have hsm := sum_any wr g k hk pss.flatten (by have := hh.out; rwa [List.take_of_length_le (Nat.le_of_eq HNL.out.symm)] at this) HGR.out HLEN.out
      have HSM := Lib.hid hsm
      clear hsm
      go_wp2_with fail
      refine HSM.out.mono ?_
      rintro e w2 ⟨b, rfl, hbb, hrow, hb2⟩
      have HB2 := Lib.hid hb2
      have HROW := Lib.hid hrow
      clear hb2 hrow
      go_wp2
      go_ret
      have hz := HBW.out.size
      exact ⟨b, rfl, by omega, HROW.out, HBW.out.trans (HB2.out.mono hz)⟩
    · have hji : (j : Int) < n := by omega
      obtain ⟨b, off, ps, Ai, ni, ci, rfl, hbB, hps, hcl, hsi, hzi⟩ := ((HS.out.below (HBW.out.mono hB)).at_ (i := j) (by omega))
      have hfl : (pss.take (j + 1)).flatten = (pss.take j).flatten ++ ps := by rw [List.take_add_one, hps, List.flatten_append]; simp
      have hle : ((pss.take (j + 1)).flatten).length ≤ pss.flatten.length := by
        have h := congrArg (fun l => (List.flatten l).length) (List.take_append_drop (j + 1) pss)
        simp only [List.flatten_append, List.length_append] at h
        omega
      have hwr := write_any wr g k hk _ ps hh.out B Ai ni ci hsi hzi (by have := HBW.out.size; omega) HGR.out hg1 (by rw [hfl, List.length_append] at hle; have := HLEN.out; omega)
      rw [← hfl] at hwr
      have HWR := Lib.hid hwr
      clear hwr hsi hzi hps hfl hle
      go_wp2_with fail
      refine HWR.out.mono ?_
      rintro e w2 ⟨rfl, hh2, ho2⟩
      have hb2 := hb.out.trans (ho2.below (Nat.le_refl g) (by have := HBW.out.size; omega))
      have HH2 := Lib.hid hh2
      have HB2 := Lib.hid hb2
      clear hh2 ho2 hb2
      go_wp2
      go_roundw
      case rel => exact ⟨j + 1, by omega, by go_num, HH2, HB2⟩
      case measure => simp [intOf]; omega
set_option maxRecDepth 100000 in
set_option maxHeartbeats 1000000 in
theorem of_no (w : World) (k : Int) (hk : ¬ KindOk k) (B : Nat) (A : Option Addr) (n c : Nat) (pss : List (List (BitVec 8))) (hs : PartsV w B A n c pss) (hB : B ≤ w.heap.size) (hn : n ≤ 17592186044416) :
    Calls Tryd.prog 54 #[.int .i64 k, .slice A n c] w fun e w' => e = .returned (.slice none 0 0) ∧ Below w.heap.size w w' := by
  have hnw := new_no w k hk
  have HNW := Lib.hid hnw
  have HS := Lib.hid hs
  have hnI : (n : Int) ≤ 17592186044416 := by omega
  clear hnw hs hn
  go_enter Tryd.func54, Tryd.ntmps54
  go_wp2_with fail
  refine HNW.out.mono ?_
  rintro e w1 ⟨rfl, rfl⟩
  go_wp2
  go_loopw [12] (fun i wr => ∃ j : Nat, j ≤ n ∧ i = .int .i64 (j : Int) ∧ Hid (Below w.heap.size w wr)) (fun i _ => n - (intOf i).toNat)
  case atStart => exact ⟨0, by omega, rfl, Lib.hid (Below.refl _ _)⟩
  case round =>
    obtain ⟨j, hj, rfl, hb⟩ := hrel
    by_cases hjn : j = n
    · subst hjn
      have hsm := sum_nil wr
      have HSM := Lib.hid hsm
      clear hsm
      go_wp2_with fail
      refine HSM.out.mono ?_
      rintro e w2 ⟨rfl, rfl⟩
      go_wp2
      go_ret
      exact ⟨rfl, hb.out⟩
    · have hji : (j : Int) < n := by omega
      obtain ⟨b, off, ps, Ai, ni, ci, rfl, hbB, hps, hcl, hsi, hzi⟩ := ((HS.out.below (hb.out.mono hB)).at_ (i := j) (by omega))
      have hwr := write_nil wr (.slice Ai ni ci)
      have HWR := Lib.hid hwr
      clear hwr hsi hzi hps
      go_wp2_with fail
      refine HWR.out.mono ?_
      rintro e w2 ⟨rfl, hb2⟩
      have HB2 := Lib.hid (hb.out.trans (hb2.mono hb.out.size))
      clear hb2
      go_wp2
      go_roundw
      case rel => exact ⟨j + 1, by omega, by go_num, HB2⟩
      case measure => simp [intOf]; omega
end Go.Proofs.YtnpaidieijlkkaaDoor

/- slices.Concat of any number of parts. -/
set_option linter.unusedVariables false
set_option linter.unusedSimpArgs false
namespace Go.Proofs.YtnpaidieijlkkaaDoor
open Go.RowKit Go.Shelf

theorem flat_take_le (pss : List (List (BitVec 8))) (j : Nat) : ((pss.take j).flatten).length ≤ pss.flatten.length := by
  have h := congrArg (fun l => (List.flatten l).length) (List.take_append_drop j pss)
  simp only [List.flatten_append, List.length_append] at h
  omega
theorem flat_take_succ {pss : List (List (BitVec 8))} {j : Nat} {ps : List (BitVec 8)} (h : pss[j]? = some ps) : (pss.take (j + 1)).flatten = (pss.take j).flatten ++ ps := by
  rw [List.take_add_one, h, List.flatten_append]; simp
set_option maxRecDepth 100000 in
set_option maxHeartbeats 2000000 in
theorem concat_any (w : World) (B : Nat) (A : Option Addr) (n c : Nat) (pss : List (List (BitVec 8))) (hs : PartsV w B A n c pss) (hB : B ≤ w.heap.size) (hn : n ≤ 1000000) (hlen : pss.flatten.length ≤ 17592186044416) :
    Calls Tryd.prog 53 #[.slice A n c] w fun e w' => ∃ v, e = .returned v ∧ w'.ownsRow w.heap.size 5 1 v pss.flatten.length (pss.flatten.map W8) ∧ Below w.heap.size w w' := by
  obtain ⟨G, hG⟩ : ∃ g, w.heap.size = g := ⟨_, rfl⟩
  have hnl := hs.len
  have hnI : (n : Int) ≤ 1000000 := by omega
  have HS := Lib.hid hs
  have HN := Lib.hid hnl
  have HG := Lib.hid hG
  have HLEN := Lib.hid hlen
  have HB := Lib.hid hB
  clear hs hnl hG hlen hB hn
  go_enter Tryd.func53, Tryd.ntmps53
  go_wp2
  go_loopw [3, 11] (fun s i wr => w = wr ∧ ∃ j L : Nat, j ≤ n ∧ i = .int .i64 (j : Int) ∧ s = .int .i64 (L : Int) ∧ Hid (((pss.take j).flatten).length = L) ∧ L ≤ 17592186044416) (fun _ i _ => n - (intOf i).toNat)
  case atStart => exact ⟨rfl, 0, 0, by omega, rfl, rfl, Lib.hid (by simp), by omega⟩
  case round =>
    obtain ⟨rfl, j, L, hj, rfl, rfl, HL, hL⟩ := hrel
    have hLI : (L : Int) ≤ 17592186044416 := by omega
    by_cases hjn : j = n
    · subst hjn
      have HLT : Hid (pss.flatten.length = L) := Lib.hid (by have := HL.out; rwa [List.take_of_length_le (Nat.le_of_eq HN.out.symm)] at this)
      clear HL
      go_wp2_with fail
      refine (grow_both _ L hL).mono ?_
      rintro e w2 ⟨v0, rfl, hown, hb⟩
      rw [HG.out] at hown hb
      go_wp2
      go_loopw [6, 27] (fun v i wr => ∃ k Lk : Nat, k ≤ j ∧ i = .int .i64 (k : Int) ∧ Hid (((pss.take k).flatten).length = Lk) ∧ Lk ≤ 17592186044416 ∧ Hid (wr.ownsRow G 5 1 v Lk (((pss.take k).flatten).map W8)) ∧ Hid (Below G w wr)) (fun _ i _ => j - (intOf i).toNat)
      case atStart => exact ⟨0, 0, by omega, rfl, Lib.hid (by simp), by omega, Lib.hid (by simpa using hown), Lib.hid hb⟩
      case round =>
        clear hown hb
        obtain ⟨k, Lk, hk, rfl, HLk, hLk, HOWN, HBR⟩ := hrel
        have hkI : (k : Int) ≤ 1000000 := by omega
        by_cases hkn : k = j
        · subst hkn
          go_wp2
          go_ret
          rw [HG.out]
          have h1 := HOWN.out
          have h2 := HLk.out
          rw [List.take_of_length_le (Nat.le_of_eq HN.out.symm)] at h1 h2
          rw [← h2] at h1
          exact ⟨_, rfl, h1, HBR.out⟩
        · have hki : (k : Int) < j := by omega
          have hBG : B ≤ G := by have := HB.out; have := HG.out; omega
          obtain ⟨b, off, ps, Ai, ni, ci, rfl, hbB, hps, hcl, hsi, hzi⟩ := ((HS.out.below (HBR.out.mono hBG)).at_ (i := k) (by omega))
          have hfl := flat_take_succ hps
          have hle := flat_take_le pss (k + 1)
          have hnil : ps.length = ni := by simpa using hsi.len.symm
          have hL2 : ((pss.take (k + 1)).flatten).length = Lk + ni := by rw [hfl, List.length_append, HLk.out, hnil]
          have hsum : Lk + ni ≤ 17592186044416 := by have := HLEN.out; omega
          have hGs : G ≤ wr.heap.size := by have := HBR.out.size; have := HG.out; omega
          have HFL := Lib.hid hfl
          have HL2 := Lib.hid hL2
          have HSUM := Lib.hid hsum
          have HGS := Lib.hid hGs
          have hown := HOWN.out
          clear hfl hL2 hle hnil hps hsum
          go_wp2_with (at_builtin; refine wlv_append Tryd.elem8 rfl _ _ rfl G _ Lk (((pss.take k).flatten).map W8) rfl hown Ai ni ci _ rfl hzi B hsi (ones8 _) (by have := HSUM.out; omega) hGs ?_; intro v3 w3 hown3 hgr)
          have hb3 := HBR.out.grown hgr HGS.out (fun q hq => (hown.lt q hq).1)
          rw [← List.map_append, ← HFL.out] at hown3
          have HO3 := Lib.hid hown3
          have HB3 := Lib.hid hb3
          clear hown3 hgr hb3 hown hsi
          go_wp2
          go_roundw
          case rel => exact ⟨k + 1, Lk + ni, by omega, by go_num, HL2, HSUM.out, HO3, HB3⟩
          case measure => simp [intOf]; omega
    · have hji : (j : Int) < n := by omega
      obtain ⟨b, off, ps, Ai, ni, ci, rfl, hbB, hps, hcl, hsi, hzi⟩ := (HS.out.at_ (i := j) (by omega))
      have hfl := flat_take_succ hps
      have hle := flat_take_le pss (j + 1)
      have hnil : ps.length = ni := by simpa using hsi.len.symm
      have hL2 : ((pss.take (j + 1)).flatten).length = L + ni := by rw [hfl, List.length_append, HL.out, hnil]
      have hsum : L + ni ≤ 17592186044416 := by have := HLEN.out; omega
      have hsumI : (L : Int) + ni ≤ 17592186044416 := by omega
      have HL2 := Lib.hid hL2
      have HSUM := Lib.hid hsum
      clear hfl hL2 hle hnil hps hsum hsi hzi
      go_wp2
      go_roundw
      case rel => exact ⟨by first | rfl | trivial, j + 1, L + ni, by omega, by go_num, by go_num, HL2, HSUM.out⟩
      case measure => simp [intOf]; omega
end Go.Proofs.YtnpaidieijlkkaaDoor

/- Boxes: variables that live in a block of their own. -/
set_option linter.unusedVariables false
set_option linter.unusedSimpArgs false
namespace Go.Proofs.YtnpaidieijlkkaaDoor
open Go.RowKit

theorem newboxE (w : World) (t : TypeId) (v : Value) : ∃ W, w.alloc (.cells #[v] t) = W ∧ Below w.heap.size w W ∧ W.cell? ⟨w.heap.size, 0, none⟩ = some v ∧ W.frozen? ⟨w.heap.size, 0, none⟩ = false ∧ W.heap.size = w.heap.size + 1 :=
  ⟨_, rfl, (Below.refl _ _).alloc (Nat.le_refl _) _, (Boxed.new w t v).cell, (Boxed.new w t v).frozen, by simp⟩
/-- a box below the heap's end holds v -/
def BxE (b : Nat) (v : Value) (W : World) : Prop := W.cell? ⟨b, 0, none⟩ = some v ∧ W.frozen? ⟨b, 0, none⟩ = false ∧ b < W.heap.size
theorem BxE.later {b : Nat} {v : Value} {W W' : World} (h : BxE b v W) (hb : Below W.heap.size W W') : BxE b v W' :=
  ⟨(hb.cell (p := ⟨b, 0, none⟩) h.2.2).trans h.1, (hb.frozen (p := ⟨b, 0, none⟩) h.2.2).trans h.2.1, Nat.lt_of_lt_of_le h.2.2 hb.size⟩

theorem newBox (w : World) (t : TypeId) (v : Value) : ∃ W, w.alloc (.cells #[v] t) = W ∧ Below w.heap.size w W ∧ BxE w.heap.size v W ∧ W.heap.size = w.heap.size + 1 := by
  obtain ⟨W, e, h, h1, h2, h3⟩ := newboxE w t v
  exact ⟨W, e, h, ⟨h1, h2, by omega⟩, h3⟩
theorem below_drewR (B : Nat) (w : World) (n : Nat) : Below B w (w.drewN n) := ⟨rfl, rfl, rfl, Nat.le_refl _, fun _ _ => rfl⟩
theorem below_box {B : Nat} {a w : World} (h : Below B a w) {b : Nat} (hb : B ≤ b) (u : Value) : Below B a (w.setCell ⟨b, 0, none⟩ u) := h.setCell (p := ⟨b, 0, none⟩) hb u
theorem BxE.set {b : Nat} {v : Value} {W : World} (h : BxE b v W) (u : Value) : BxE b u (W.setCell ⟨b, 0, none⟩ u) :=
  ⟨World.cell?_setCell_same' _ _ _ (by rw [h.1]; rfl), by rw [World.frozen?_setCell]; exact h.2.1, by have := h.2.2; simpa [World.setCell] using this⟩
theorem BxE.far {b b' : Nat} {v : Value} {W : World} (h : BxE b v W) (hn : b' ≠ b) (u : Value) : BxE b v (W.setCell ⟨b', 0, none⟩ u) :=
  ⟨by rw [World.cell?_setCell_other _ _ _ _ (fun e => hn (by injection e))]; exact h.1, by rw [World.frozen?_setCell]; exact h.2.1, by have := h.2.2; simpa [World.setCell] using this⟩
theorem BxE.kept {b : Nat} {v : Value} {A B' : World} (h : BxE b v A) {row : Option Nat} (hg : A.grownBy B' row) (hr : ∀ r, row = some r → ∃ o : Obj, A.heap[r]? = some o ∧ o.isCells = false) : BxE b v B' :=
  ⟨cell_kept h.1 hg hr, (frozen_kept h.1 hg hr).trans h.2.1, Nat.lt_of_lt_of_le h.2.2 hg.size⟩
theorem BxE.new (w : World) (t : TypeId) (v : Value) : BxE w.heap.size v (w.alloc (.cells #[v] t)) := by
  obtain ⟨W, rfl, _, h1, h2, h3⟩ := newboxE w t v
  exact ⟨h1, h2, by omega⟩
theorem BxE.drewN {b : Nat} {v : Value} {W : World} (h : BxE b v W) (n : Nat) : BxE b v (W.drewN n) := h
theorem SlV.setFar {w : World} {B n c : Nat} {A : Option Addr} {vs : List Value} (h : SlV w B A n c vs) {b : Nat} (hb : B ≤ b) (u : Value) : SlV (w.setCell ⟨b, 0, none⟩ u) B A n c vs :=
  h.below ((Below.refl B w).setCell (p := ⟨b, 0, none⟩) hb u)
end Go.Proofs.YtnpaidieijlkkaaDoor
