/- baileylaw5: begun. -/
import Derived.Test.YtabhdkjepbkooaaBg
import Derived.Test.YtabhdkjepbkooaaAx
import Derived.Test.YtabhdkjepbkooaaKt
set_option linter.unusedVariables false
set_option linter.unusedSimpArgs false
namespace Go.Proofs.Ytabhdkjepbkooaa
open Go.RowKit
attribute [local go_sem] Oper.semAt_some

def keyE : List (BitVec 8) := [0, 1, 2, 3, 4, 5, 6, 7, 8, 9, 10, 11, 12, 13, 14, 15]
def plainE : List (BitVec 8) := [0, 0x11, 0x22, 0x33, 0x44, 0x55, 0x66, 0x77, 0x88, 0x99, 0xaa, 0xbb, 0xcc, 0xdd, 0xee, 0xff]
def codeE : List (BitVec 8) := [0x69, 0xc4, 0xe0, 0xd8, 0x6a, 0x7b, 0x04, 0x30, 0xd8, 0xcd, 0xb7, 0x80, 0x70, 0xb4, 0xc5, 0x5a]
theorem codeE_is : encA keyE plainE = codeE := enc_example
theorem keys_notNil (g1 : Nat) (w : World) : (binOp .eql 31 (.func (.func 31) #[] #[.pointer (some ⟨g1, 0, none⟩)]) .nilFunc).run Try.prog w = .ok (.bool false) w := by kernel_rfl
/-- how far begun has counted -/
def BgI (w0 : World) (g : Nat) (pre : List KyX) (W : World) : Prop := OnlyV w0 W g ∧ BxE g (.int .i64 ((pre.length : Nat) : Int)) W
theorem BgI.own (w0 : World) (g : Nat) : OwnFrom w0.heap.size (BgI w0 g) := fun s W W' row hs hg hr =>
  ⟨hs.1.grown hg (fun r e => (hr r e).1), hs.2.kept hg (fun r e => (hr r e).2)⟩
set_option maxRecDepth 100000 in
set_option maxHeartbeats 4000000 in
theorem begun5_any (w : World) : Calls Try.prog 6 #[] w fun e w' => e = .returned (.bool true) ∧ Below w.heap.size w w' := by
  obtain ⟨z, hz⟩ : ∃ z, w.heap.size = z := ⟨_, rfl⟩
  obtain ⟨W1, e1, r1, b1, z1⟩ := newV w 5 (keyE.map W8) #[.int .u8 0, .int .u8 1, .int .u8 2, .int .u8 3, .int .u8 4, .int .u8 5, .int .u8 6, .int .u8 7, .int .u8 8, .int .u8 9, .int .u8 10, .int .u8 11, .int .u8 12, .int .u8 13, .int .u8 14, .int .u8 15] rfl
  rw [hz] at r1 b1
  have hkl : keyE.length = 16 := rfl
  have hs1 := r1.sl (by simp [hkl])
  rw [List.length_map, hkl] at hs1
  have hnw := new_any W1 W1.heap.size _ 16 16 keyE hs1 (by intro h; cases h) (Nat.le_refl _) (.inl rfl)
  have HNW := Lib.hid hnw
  have HZ := Lib.hid hz
  have HB1 := Lib.hid b1
  have HR1 := Lib.hid r1
  have hz1 : z ≤ W1.heap.size := by omega
  clear hnw hs1 b1 r1 z1
  refine (callsIn_wide (n := 9)).1 ?_
  refine callsIn_of_wp_marks Try.func6 rfl trivial ?_ rfl
  simp only [Try.ntmps6, List.size_toArray, List.length_cons, List.length_nil, Nat.reduceAdd, Nat.reduceSub, Array.replicate_succ, Array.replicate_zero, List.push_toArray, List.append_toArray, List.nil_append, List.cons_append]
  gi_wp2_with fail
  refine ⟨trivial, (callsIn_wide.2 HNW.out).mono ?_⟩
  rintro e w2 ⟨g, rfl, hg, hc2, hb2⟩
  have hB2 := HB1.out.trans (hb2.mono hz1)
  have hR2 := HR1.out.later hb2
  obtain ⟨W3, e3, b3, z3⟩ := newFrozen w2 #[.int .u8 0, .int .u8 17, .int .u8 34, .int .u8 51, .int .u8 68, .int .u8 85, .int .u8 102, .int .u8 119, .int .u8 136, .int .u8 153, .int .u8 170, .int .u8 187, .int .u8 204, .int .u8 221, .int .u8 238, .int .u8 255] 16 17
  have hs3 : SlV W3 (w2.heap.size + 1) (some ⟨w2.heap.size, 0, none⟩) 16 16 (plainE.map W8) := by rw [← e3]; exact constSl w2 plainE (by decide) 16 17
  have kc := fun (w : World) (C : Array Value) (n c : Nat) => convConst w C n c
  have hz2 : z ≤ w2.heap.size := by have := hb2.size; omega
  have hen := encrypt_any W3 g keyE (hc2.later b3) _ _ 16 16 plainE hs3 (by omega) rfl
  rw [codeE_is] at hen
  have HEN := Lib.hid hen
  have HC3 := Lib.hid (hc2.later b3)
  have HB3 := Lib.hid (hB2.trans (b3.mono hz2))
  have HR3 := Lib.hid (hR2.later b3)
  have hz3 : z ≤ W3.heap.size := by omega
  clear hen hc2 hB2 hR2 b3 hs3 hb2 z3 HNW HR1 HB1
  gi_wp2_with fail
  refine ⟨trivial, (callsIn_wide.2 HEN.out).mono ?_⟩
  rintro e w4 ⟨g4, rfl, hg4, hr4, hb4⟩
  have hc4 := HC3.out.later hb4
  obtain ⟨gk, hrg, hrk4⟩ := hc4.rows
  have HRK4 := Lib.hid hrk4
  have HRG4 := Lib.hid hrg
  have hky := keys_any w4 g gk _ hrg
  obtain ⟨C, hC⟩ : ∃ C, cntL keyE.length = C := ⟨_, rfl⟩
  have hC11 : C = 11 := by rw [← hC]; rfl
  rw [hC] at hky HRG4
  subst hC11
  have HKY := Lib.hid hky
  have HC4 := Lib.hid hc4
  have HB4 := Lib.hid (HB3.out.trans (hb4.mono hz3))
  have HR4 := Lib.hid (HR3.out.later hb4)
  have HO4 := Lib.hid hr4
  have hz4 : z ≤ w4.heap.size := by have := hb4.size; omega
  clear hky hc4 hb4 hr4 hrg hrk4 hC hg4 HEN kc e3
  gi_wp2_with fail
  refine ⟨trivial, (callsIn_wide.2 HKY.out).mono ?_⟩
  rintro e w5 ⟨g1, rfl, hg1, hr1, hb5⟩
  have hnf := keys_notNil g1
  have hz5 : z ≤ w5.heap.size := by have := hb5.size; omega
  obtain ⟨W6, e6, b6, x6, z6⟩ := newBox w5 3 (.int .i64 0)
  obtain ⟨x, hx⟩ : ∃ x, w5.heap.size = x := ⟨_, rfl⟩
  rw [hx] at x6
  have hzx : z ≤ x := by omega
  have q6 := x6.1
  have q6f := x6.2.1
  obtain ⟨W7, e7⟩ : ∃ V, W6.setCell ⟨x, 0, none⟩ (.int .i64 0) = V := ⟨_, rfl⟩
  have x7 : BxE x (.int .i64 0) W7 := by rw [← e7]; exact x6.set _
  have b57 : Below w5.heap.size w5 W7 := by rw [← e7]; exact below_box b6 (by omega) _
  have hrk7 := (HRK4.out.later hb5).later b57
  have hr17 := hr1.later b57
  have hl5 : ∀ q, q < w5.heap.size → q ≠ x := fun q hq => by omega
  have hgk5 : gk < w5.heap.size := (HRK4.out.later hb5).lt
  have hg15 : g1 < w5.heap.size := hr1.lt
  have hseq := keys1_in 8 (by decide) W7 x g1 gk 11 (wholeL keyE) hr17 hrk7 (by rw [wholeL_length keyE (.inl rfl)]; rfl) (hl5 _ hg15) (hl5 _ hgk5) (by decide)
  have HSEQ := Lib.hid hseq
  have HB7 := Lib.hid (HB4.out.trans ((hb5.mono hz4).trans (b57.mono hz5)))
  have HC7 := Lib.hid ((HC4.out.later hb5).later b57)
  have HR7 := Lib.hid ((HR4.out.later hb5).later b57)
  have HO7 := Lib.hid ((HO4.out.later hb5).later b57)
  have HX7 := Lib.hid x7
  have HRK7 := Lib.hid ((HRK4.out.later hb5).later b57)
  have HRG7 := Lib.hid ((HRG4.out.later hb5).later b57)
  have hgk5' : gk < w5.heap.size := hgk5
  have hx7 : x < W7.heap.size := x7.2.2
  have hg5 : g < w5.heap.size := (HC4.out.later hb5).lt
  have HLT := Lib.hid hl5
  have hgz5 : z < w5.heap.size ∧ g4 < w5.heap.size := ⟨(HR4.out.later hb5).lt, (HO4.out.later hb5).lt⟩
  clear hseq hrk7 hr17 hl5 b57 x7 hb5 hr1 b6 z6 x6 hg1 HKY hgk5 hg15
  gi_wp2_with fail
  refine wpIn_rangeP rfl (by decide) (gf := 31) (lb := #[.pointer (some ⟨g1, 0, none⟩)]) rfl trivial (enters_of Try.func31 (by kernel_rfl) rfl)
    HSEQ.out (fun a b => a.trans b) (fun W l o o' hl ho _ _ => KpE.put hl ho) (fun _ => rfl)
    (BgI W7 x) (fun _ _ _ => False) (BgI.own _ _) (fun _ _ _ _ _ h _ _ => h.elim) (fun pre => KyR.own _ _ _ pre) ?hI0 ?a1x ?assign ?body ?done ?stop
  case hI0 => exact ⟨OnlyV.refl _ _, HX7.out⟩
  case assign =>
    intro l x W K hK
    gi_wp2
    exact hK
  case body =>
    rintro l pre ⟨i, Ap, np, cp⟩ W ⟨hO, hX⟩ hky hpl
    obtain ⟨pl, hpll⟩ : ∃ x, pre.length = x := ⟨_, rfl⟩
    rw [hpll] at hX hpl
    have HPL := Lib.hid hpll
    have c5 := hX.1
    have f5 := hX.2.1
    have hpi : (pl : Int) < 11 := by omega
    have HOW := Lib.hid hO
    obtain ⟨Wa, eWa⟩ : ∃ V, W.setCell ⟨x, 0, none⟩ (.int .i64 ((pl : Int) + 1)) = V := ⟨_, rfl⟩
    have hXa : BxE x (.int .i64 ((pl : Int) + 1)) Wa := by rw [← eWa]; exact hX.set _
    have hOa : OnlyV W Wa x := by rw [← eWa]; exact (OnlyV.refl W x).set 0 _
    have HXA := Lib.hid hXa
    have HOA := Lib.hid hOa
    clear hX hO hXa hOa hky hpll
    gi_wp2
    refine ⟨⟨HOA.out.size, fun k o hk hh _ => (HOA.out.block k (Array.getElem?_eq_some_iff.1 hh).1 (fun e => by injection e; omega)).trans hh⟩, KpE.only HOA.out HOW.out.size, HOW.out.trans HOA.out, ?_⟩
    rw [List.length_append, List.length_singleton, HPL.out]
    exact HXA.out
  case done =>
    rintro D ys W hD hys ⟨hO, hX⟩ hK
    have hyl : ys.length = 11 := hys
    rw [hyl] at hX
    have hcc : W.cell? ⟨x, 0, none⟩ = some (.int .i64 11) := hX.1
    have hzW7 : z ≤ W7.heap.size := by omega
    have hB : Below z w W := HB7.out.trans (hO.below hzx hzW7)
    have hkW := HR7.out.only hO (show z ≠ x by omega)
    have hbW := HO7.out.only hO (show g4 ≠ x by omega)
    have hcW : CipherR W g keyE := ⟨.inl rfl, gk, HRG7.out.only hO (show g ≠ x by omega), HRK7.out.only hO (show gk ≠ x by omega)⟩
    have hks := hkW.sl (by simp [hkl])
    rw [List.length_map, hkl] at hks
    have hcl : codeE.length = 16 := rfl
    have hbs := hbW.sl (by rw [List.length_map, hcl]; decide)
    rw [List.length_map, hcl] at hbs
    have cv := conv_str hbs
    have e2 : ∀ w', (binOp .eql 9 (strV codeE) (.string { data := #[105, 196, 224, 216, 106, 123, 4, 48, 216, 205, 183, 128, 112, 180, 197, 90] })).run Try.prog w' = .ok (.bool true) w' := fun w' => eql_str w' _ codeE codeE
    have q2 := fun (w : World) (t : TypeId) (x y : Operand) (a : List (BitVec 8)) (s : ByteArray) => eqGuard_strc (P := Try.prog) w .eql t x y a s
    have htm := times_any W W.heap.size z 0 16 z 0 16 keyE keyE hks hks (Nat.le_refl _)
    have HTM := Lib.hid htm
    have HBW := Lib.hid hB
    have HKS := Lib.hid hks
    have HBS := Lib.hid hbs
    have HCW := Lib.hid hcW
    have HD := Lib.hid hD
    have hzW : z ≤ W.heap.size := by have := hB.size; have := HZ.out; omega
    clear hX hys hO hB hkW hbW hcW hks hbs htm hyl hD
    gi_wp2_with fail
    refine ⟨trivial, (callsIn_wide.2 HTM.out).mono ?_⟩
    rintro e W8' ⟨g8, rfl, _, _, hb8⟩
    have hgh := ghash_any W8' W.heap.size z 0 16 keyE (HKS.out.below hb8) none 0 0 0 0 (fun h => absurd h (by decide)) [] (SlV.nil _ _ _ (by decide)) (by decide) hb8.size
    have HGH := Lib.hid hgh
    have HB8 := Lib.hid hb8
    clear hgh hb8 HTM cv
    gi_wp2_with fail
    refine ⟨trivial, (callsIn_wide.2 HGH.out).mono ?_⟩
    rintro e W9' ⟨g9, rfl, _, _, hb9⟩
    have hb09 := HB8.out.trans (hb9.mono HB8.out.size)
    have hde := decrypt_any W9' g keyE (HCW.out.later hb09) W.heap.size _ 16 16 codeE (HBS.out.below hb09) hb09.size rfl
    have HDE := Lib.hid hde
    have HB9 := Lib.hid hb09
    clear hde hb9 hb09 HGH
    gi_wp2_with fail
    refine ⟨trivial, (callsIn_wide.2 HDE.out).mono ?_⟩
    rintro e W10' ⟨g10, rfl, _, _, hb10⟩
    have hb010 := HB9.out.trans (hb10.mono HB9.out.size)
    have hK10 : W10'.heap[D]? = some (.deferred (some [])) := (hb010.block D (Array.getElem?_eq_some_iff.1 hK).1).trans hK
    have hBB := HBW.out.trans (hb010.mono hzW)
    have HBB := Lib.hid hBB
    clear hb10 hb010 hBB HDE
    gi_wp2
    refine ⟨by simp, .inl ⟨_, _, rfl, run_takeDeferred hK10, ?_⟩⟩
    have hgr := grownBy_putObj' W10' D (.deferred none)
    refine ⟨.bool true, by simp [results, Try.f6, go_sem], rfl, ?_⟩
    rw [HZ.out]
    exact HBB.out.grown hgr (by have := HBB.out.size; have := HZ.out; omega) (fun r e => by cases e; have := HD.out; omega)
  case stop =>
    intro D c pre W _ _ h
    exact h.elim
end Go.Proofs.Ytabhdkjepbkooaa
