/- Parts of one proof, joined: RvO, RvP, TreeH, Kt, WCz. -/
import Derived.Test.YtbejcollbkeedaaGreatPileC13
import Derived.Test.YtbejcollbkeedaaGreatPileC10
import Derived.Test.YtbejcollbkeedaaGreatPileC3
import Derived.Test.YtbejcollbkeedaaGreatPileC12
import Derived.Test.YtbejcollbkeedaaGreatPileC11
import Derived.Test.YtbejcollbkeedaaGreatPileC6
import Derived.Laws.IdiomStrings
import Derived.Laws.BytesString
import Derived.Lib.SlBytesConst
import Derived.OpenShut
set_option linter.unusedVariables false
set_option linter.unusedSimpArgs false
set_option linter.unusedSectionVars false
set_option maxRecDepth 100000
set_option maxHeartbeats 8000000
open Go.Lib (hid)
namespace Go.Proofs.YtbejcollbkeedaaGreat
open Go.RowKit
theorem results_rp2 {fn : Func} {q u : Tmp} {w : World} (h : fn.results = #[.cell q 33, .tmp u]) (tmps : Array Value) (g : Nat) (vs : List Value) (hp : tmps.getD q undef = .pointer (some ⟨g, 0, none⟩)) (hr : RowV 33 w g vs) (hl : vs.length = 3) :
  (results fn tmps).run Tryz.prog w = .ok (.tuple #[.agg vs.toArray, tmps.getD u undef]) w := by
 rw [results_cell_tmp h, hp]
 simp [asAddr, run_loadVar_row w g _ _ vs.toArray (0, 0) _ hr Tryz.underlying33 rfl (by rw [Tryz.sizeRp]; simp [hl])]
theorem rfromb_b (w : World) (A : Option Addr) (n c : Nat) (bs : List (BitVec 8)) (hs : SlV w w.heap.size A n c (bs.map W8)) (hn : n ≤ 500) : Calls Tryz.prog 64 #[.slice A n c] w fun e w' => RetB w (numB bs) e w' := by
 refine (rfrombytes_any w _ (Nat.le_refl _) A n c (natsB bs) (sl8_of_slVB hs) (by omega)).mono ?_
 rintro e w' ⟨zs, hz, A3, n3, c3, rfl, hs3, hB⟩
 refine ⟨_, rfl, Nb.of hs3 hz ?_, hB⟩
 have h1 : V 256 (natsB bs).reverse < 256 ^ (natsB bs).reverse.length := V_lt _ (fun x hx => by
  rw [List.mem_reverse] at hx
  obtain ⟨y, _, rfl⟩ := List.mem_map.1 hx
  exact y.isLt)
 have hl : (natsB bs).reverse.length = n := by
  have := hs.len
  simp [natsB] at this ⊢
  omega
 rw [hl] at h1
 exact Nat.lt_of_lt_of_le h1 (Nat.le_trans (Nat.pow_le_pow_right (by decide) hn) (by decide +kernel))
theorem rDec9_none (w : World) (vp vn vb vx vy : Value) (A : Option Addr) (n cp : Nat) :
  Calls Tryz.prog 26 #[.agg #[vp, vn, vb, vx, vy, .int .i64 0], .slice A n cp] w fun e w' => e = .returned (.tuple #[.agg #[.bool true, .slice none 0 0, .slice none 0 0], .bool false]) ∧ Below w.heap.size w w' := by
 obtain ⟨W0, e0, r0, b0, s0⟩ := newS w 30 [vp, vn, vb, vx, vy, .int .i64 0] _ rfl
 obtain ⟨W1, e1, r1, b1, s1⟩ := newS W0 33 [.bool false, .slice none 0 0, .slice none 0 0] _ rfl
 obtain ⟨g0, hg0⟩ : ∃ g, w.heap.size = g := ⟨_, rfl⟩
 obtain ⟨gr, hgr⟩ : ∃ g, W0.heap.size = g := ⟨_, rfl⟩
 have hbw := b0.trans (b1.mono b0.size)
 have HGL := hid (show w.heap.size ≤ gr ∧ g0 ≠ gr by omega)
 rw [hg0] at r0
 rw [hgr] at r1
 have HB := hid hbw
 have HRR := hid r1
 have c5 := (r0.later b1).at_ (i := 5) rfl
 clear b0 b1 s0 s1 hbw r0 r1
 go_enter Tryz.func26, Tryz.ntmps26
 go_wp2_with ((with_reducible show wpList _ _ _ (⟨none, _, _, _, _, _⟩ :: _) _ _); refine wlS_store rfl 33 3 Tryz.sizeRp _ _ rfl gr [.bool true, .slice none 0 0, .slice none 0 0] rfl rfl 33 _ HRR.out rfl rfl (ones3 rfl rfl rfl) ?_; intro w6 hr6 hg6 hz6)
 exact ⟨rfl, _, results_rp2 rfl _ gr _ rfl hr6 rfl, rfl, below_grown HB.out hg6 HGL.out.1 HB.out.size⟩
theorem rDec9_nil (w : World) (vc : Value) (D : Crv) (hc : Cr w vc D) (hD : 0 < D.size ∧ D.size ≤ 200) (A : Option Addr) (n cp : Nat) (hn0 : n = 0) :
  Calls Tryz.prog 26 #[vc, .slice A n cp] w fun e w' => e = .returned (.tuple #[.agg #[.bool true, .slice none 0 0, .slice none 0 0], .bool false]) ∧ Below w.heap.size w w' := by
 obtain ⟨sz, hsz⟩ : ∃ z, D.size = z := ⟨_, rfl⟩
 obtain ⟨vp, vn, vb, vx, vy, evc, kp, kn, kb, kx, ky⟩ := hc
 rw [hsz] at hD evc
 subst evc
 have hD2 : (sz : Int) ≤ 200 := by omega
 have hD3 : (0 : Int) < (sz : Int) := by omega
 have hD4 : ¬ (sz : Int) = 0 := by omega
 subst hn0
 have hne : ¬ (0 : Int) = 2 * (sz : Int) + 1 := by omega
 obtain ⟨W0, e0, r0, b0, s0⟩ := newS w 30 [vp, vn, vb, vx, vy, .int .i64 (sz : Int)] _ rfl
 obtain ⟨W1, e1, r1, b1, s1⟩ := newS W0 33 [.bool false, .slice none 0 0, .slice none 0 0] _ rfl
 obtain ⟨g0, hg0⟩ : ∃ g, w.heap.size = g := ⟨_, rfl⟩
 obtain ⟨gr, hgr⟩ : ∃ g, W0.heap.size = g := ⟨_, rfl⟩
 have hbw := b0.trans (b1.mono b0.size)
 have HGL := hid (show w.heap.size ≤ gr ∧ g0 ≠ gr ∧ gr < W1.heap.size ∧ g0 < W1.heap.size by have := r1.lt; have := r0.lt; omega)
 rw [hg0] at r0
 rw [hgr] at r1
 have HB := hid hbw
 have HRR := hid r1
 have HR0 := hid (r0.later b1)
 have c5 := HR0.out.at_ (i := 5) rfl
 clear b0 b1 s0 s1 hbw r0 r1 hsz hD
 go_enter Tryz.func26, Tryz.ntmps26
 go_wp2_with ((with_reducible show wpList _ _ _ (⟨none, _, _, _, _, _⟩ :: _) _ _); refine wlS_store rfl 33 3 Tryz.sizeRp _ _ rfl gr [.bool true, .slice none 0 0, .slice none 0 0] rfl rfl 33 _ HRR.out rfl rfl (ones3 rfl rfl rfl) ?_; intro w6 hr6 hg6 hz6)
 exact ⟨rfl, _, results_rp2 rfl _ gr _ rfl hr6 rfl, rfl, below_grown HB.out hg6 HGL.out.1 HB.out.size⟩
theorem rDec9_zero (w : World) (vc : Value) (D : Crv) (hc : Cr w vc D) (hD : 0 < D.size ∧ D.size ≤ 200) (bq off n cp : Nat) (b0' : BitVec 8) (bs : List (BitVec 8)) (hs : SlV w w.heap.size (some ⟨bq, off, none⟩) n cp ((b0' :: bs).map W8)) (hn : n ≤ 500) (hn1 : n = 1) (hb0 : b0' = 0) :
  Calls Tryz.prog 26 #[vc, .slice (some ⟨bq, off, none⟩) n cp] w fun e w' => e = .returned (.tuple #[.agg #[.bool true, .slice none 0 0, .slice none 0 0], .bool true]) ∧ Below w.heap.size w w' := by
 obtain ⟨sz, hsz⟩ : ∃ z, D.size = z := ⟨_, rfl⟩
 obtain ⟨vp, vn, vb, vx, vy, evc, kp, kn, kb, kx, ky⟩ := hc
 rw [hsz] at hD evc
 subst evc
 have hD2 : (sz : Int) ≤ 200 := by omega
 have hD3 : (0 : Int) < (sz : Int) := by omega
 have hD4 : ¬ (sz : Int) = 0 := by omega
 obtain ⟨v8, hv8⟩ : ∃ v : Int, i8 b0' = v := ⟨_, rfl⟩
 have hc8 : (W8 b0') = .int .u8 v8 := by rw [← hv8]
 have hv0 : v8 = 0 := by rw [← hv8, hb0]; rfl
 subst hv0
 subst hn1
 obtain ⟨W0, e0, r0, b0, s0⟩ := newS w 30 [vp, vn, vb, vx, vy, .int .i64 (sz : Int)] _ rfl
 obtain ⟨W1, e1, r1, b1, s1⟩ := newS W0 33 [.bool false, .slice none 0 0, .slice none 0 0] _ rfl
 obtain ⟨g0, hg0⟩ : ∃ g, w.heap.size = g := ⟨_, rfl⟩
 obtain ⟨gr, hgr⟩ : ∃ g, W0.heap.size = g := ⟨_, rfl⟩
 have hbw := b0.trans (b1.mono b0.size)
 have HGL := hid (show w.heap.size ≤ gr ∧ g0 ≠ gr ∧ gr < W1.heap.size ∧ g0 < W1.heap.size by have := r1.lt; have := r0.lt; omega)
 rw [hg0] at r0
 rw [hgr] at r1
 have HB := hid hbw
 have HRR := hid r1
 have HR0 := hid (r0.later b1)
 have c5 := HR0.out.at_ (i := 5) rfl
 have hcell : W1.cell? ⟨bq, off, none⟩ = some (.int .u8 0) := by
  have hh := (hs.later hbw (Nat.le_refl _)).first
  rw [hc8] at hh
  exact hh
 clear b0 b1 s0 s1 hbw r0 r1 hsz hD hv8 hc8 hs hb0
 go_enter Tryz.func26, Tryz.ntmps26
 go_wp2_with ((with_reducible show wpList _ _ _ (⟨none, _, _, _, _, _⟩ :: _) _ _); refine wlS_store rfl 33 3 Tryz.sizeRp _ _ rfl gr [.bool true, .slice none 0 0, .slice none 0 0] rfl rfl 33 _ HRR.out rfl rfl (ones3 rfl rfl rfl) ?_; intro w6 hr6 hg6 hz6)
 exact ⟨rfl, _, results_rp2 rfl _ gr _ rfl hr6 rfl, rfl, below_grown HB.out hg6 HGL.out.1 HB.out.size⟩
theorem rDec9_one (w : World) (vc : Value) (D : Crv) (hc : Cr w vc D) (hD : 0 < D.size ∧ D.size ≤ 200) (bq off n cp : Nat) (b0' : BitVec 8) (bs : List (BitVec 8)) (hs : SlV w w.heap.size (some ⟨bq, off, none⟩) n cp ((b0' :: bs).map W8)) (hn : n ≤ 500) (hn1 : n = 1) (hb0 : b0' ≠ 0) :
  Calls Tryz.prog 26 #[vc, .slice (some ⟨bq, off, none⟩) n cp] w fun e w' => e = .returned (.tuple #[.agg #[.bool true, .slice none 0 0, .slice none 0 0], .bool false]) ∧ Below w.heap.size w w' := by
 obtain ⟨sz, hsz⟩ : ∃ z, D.size = z := ⟨_, rfl⟩
 obtain ⟨vp, vn, vb, vx, vy, evc, kp, kn, kb, kx, ky⟩ := hc
 rw [hsz] at hD evc
 subst evc
 have hD2 : (sz : Int) ≤ 200 := by omega
 have hD3 : (0 : Int) < (sz : Int) := by omega
 have hD4 : ¬ (sz : Int) = 0 := by omega
 obtain ⟨v8, hv8⟩ : ∃ v : Int, i8 b0' = v := ⟨_, rfl⟩
 have hc8 : (W8 b0') = .int .u8 v8 := by rw [← hv8]
 have hv0 : ¬ v8 = 0 := by rw [← hv8]; intro h; apply hb0; apply BitVec.eq_of_toNat_eq; have : ((b0'.toNat : Nat) : Int) = 0 := h; simpa using this
 subst hn1
 have hne : ¬ (1 : Int) = 2 * (sz : Int) + 1 := by omega
 obtain ⟨W0, e0, r0, b0, s0⟩ := newS w 30 [vp, vn, vb, vx, vy, .int .i64 (sz : Int)] _ rfl
 obtain ⟨W1, e1, r1, b1, s1⟩ := newS W0 33 [.bool false, .slice none 0 0, .slice none 0 0] _ rfl
 obtain ⟨g0, hg0⟩ : ∃ g, w.heap.size = g := ⟨_, rfl⟩
 obtain ⟨gr, hgr⟩ : ∃ g, W0.heap.size = g := ⟨_, rfl⟩
 have hbw := b0.trans (b1.mono b0.size)
 have HGL := hid (show w.heap.size ≤ gr ∧ g0 ≠ gr ∧ gr < W1.heap.size ∧ g0 < W1.heap.size by have := r1.lt; have := r0.lt; omega)
 rw [hg0] at r0
 rw [hgr] at r1
 have HB := hid hbw
 have HRR := hid r1
 have HR0 := hid (r0.later b1)
 have c5 := HR0.out.at_ (i := 5) rfl
 have hcell : W1.cell? ⟨bq, off, none⟩ = some (.int .u8 v8) := by
  have hh := (hs.later hbw (Nat.le_refl _)).first
  rw [hc8] at hh
  exact hh
 clear b0 b1 s0 s1 hbw r0 r1 hsz hD hv8 hc8 hs hb0
 go_enter Tryz.func26, Tryz.ntmps26
 go_wp2_with ((with_reducible show wpList _ _ _ (⟨none, _, _, _, _, _⟩ :: _) _ _); refine wlS_store rfl 33 3 Tryz.sizeRp _ _ rfl gr [.bool true, .slice none 0 0, .slice none 0 0] rfl rfl 33 _ HRR.out rfl rfl (ones3 rfl rfl rfl) ?_; intro w6 hr6 hg6 hz6)
 exact ⟨rfl, _, results_rp2 rfl _ gr _ rfl hr6 rfl, rfl, below_grown HB.out hg6 HGL.out.1 HB.out.size⟩
theorem rDec9_len (w : World) (vc : Value) (D : Crv) (hc : Cr w vc D) (hD : 0 < D.size ∧ D.size ≤ 200) (bq off n cp : Nat) (b0' : BitVec 8) (bs : List (BitVec 8)) (hs : SlV w w.heap.size (some ⟨bq, off, none⟩) n cp ((b0' :: bs).map W8)) (hn : n ≤ 500) (hn1 : n ≠ 1) (hl : n ≠ 2 * D.size + 1) :
  Calls Tryz.prog 26 #[vc, .slice (some ⟨bq, off, none⟩) n cp] w fun e w' => e = .returned (.tuple #[.agg #[.bool true, .slice none 0 0, .slice none 0 0], .bool false]) ∧ Below w.heap.size w w' := by
 obtain ⟨sz, hsz⟩ : ∃ z, D.size = z := ⟨_, rfl⟩
 obtain ⟨vp, vn, vb, vx, vy, evc, kp, kn, kb, kx, ky⟩ := hc
 rw [hsz] at hD evc
 subst evc
 have hD2 : (sz : Int) ≤ 200 := by omega
 have hD3 : (0 : Int) < (sz : Int) := by omega
 have hD4 : ¬ (sz : Int) = 0 := by omega
 obtain ⟨v8, hv8⟩ : ∃ v : Int, i8 b0' = v := ⟨_, rfl⟩
 have hc8 : (W8 b0') = .int .u8 v8 := by rw [← hv8]
 rw [hsz] at hl
 have hne1 : ¬ (n : Int) = 1 := by omega
 have hne : ¬ (n : Int) = 2 * (sz : Int) + 1 := by omega
 obtain ⟨W0, e0, r0, b0, s0⟩ := newS w 30 [vp, vn, vb, vx, vy, .int .i64 (sz : Int)] _ rfl
 obtain ⟨W1, e1, r1, b1, s1⟩ := newS W0 33 [.bool false, .slice none 0 0, .slice none 0 0] _ rfl
 obtain ⟨g0, hg0⟩ : ∃ g, w.heap.size = g := ⟨_, rfl⟩
 obtain ⟨gr, hgr⟩ : ∃ g, W0.heap.size = g := ⟨_, rfl⟩
 have hbw := b0.trans (b1.mono b0.size)
 have HGL := hid (show w.heap.size ≤ gr ∧ g0 ≠ gr ∧ gr < W1.heap.size ∧ g0 < W1.heap.size by have := r1.lt; have := r0.lt; omega)
 rw [hg0] at r0
 rw [hgr] at r1
 have HB := hid hbw
 have HRR := hid r1
 have HR0 := hid (r0.later b1)
 have c5 := HR0.out.at_ (i := 5) rfl
 have hcell : W1.cell? ⟨bq, off, none⟩ = some (.int .u8 v8) := by
  have hh := (hs.later hbw (Nat.le_refl _)).first
  rw [hc8] at hh
  exact hh
 clear b0 b1 s0 s1 hbw r0 r1 hsz hD hv8 hc8 hs hl
 go_enter Tryz.func26, Tryz.ntmps26
 go_wp2_with ((with_reducible show wpList _ _ _ (⟨none, _, _, _, _, _⟩ :: _) _ _); refine wlS_store rfl 33 3 Tryz.sizeRp _ _ rfl gr [.bool true, .slice none 0 0, .slice none 0 0] rfl rfl 33 _ HRR.out rfl rfl (ones3 rfl rfl rfl) ?_; intro w6 hr6 hg6 hz6)
 exact ⟨rfl, _, results_rp2 rfl _ gr _ rfl hr6 rfl, rfl, below_grown HB.out hg6 HGL.out.1 HB.out.size⟩
theorem rDec9_form (w : World) (vc : Value) (D : Crv) (hc : Cr w vc D) (hD : 0 < D.size ∧ D.size ≤ 200) (bq off n cp : Nat) (b0' : BitVec 8) (bs : List (BitVec 8)) (hs : SlV w w.heap.size (some ⟨bq, off, none⟩) n cp ((b0' :: bs).map W8)) (hn : n ≤ 500) (hl : n = 2 * D.size + 1) (hb0 : b0' ≠ 4) :
  Calls Tryz.prog 26 #[vc, .slice (some ⟨bq, off, none⟩) n cp] w fun e w' => e = .returned (.tuple #[.agg #[.bool true, .slice none 0 0, .slice none 0 0], .bool false]) ∧ Below w.heap.size w w' := by
 obtain ⟨sz, hsz⟩ : ∃ z, D.size = z := ⟨_, rfl⟩
 obtain ⟨vp, vn, vb, vx, vy, evc, kp, kn, kb, kx, ky⟩ := hc
 rw [hsz] at hD evc
 subst evc
 have hD2 : (sz : Int) ≤ 200 := by omega
 have hD3 : (0 : Int) < (sz : Int) := by omega
 have hD4 : ¬ (sz : Int) = 0 := by omega
 obtain ⟨v8, hv8⟩ : ∃ v : Int, i8 b0' = v := ⟨_, rfl⟩
 have hc8 : (W8 b0') = .int .u8 v8 := by rw [← hv8]
 have hv0 : ¬ v8 = 4 := by rw [← hv8]; intro h; apply hb0; apply BitVec.eq_of_toNat_eq; have : ((b0'.toNat : Nat) : Int) = 4 := h; simp; omega
 rw [hsz] at hl
 have hne1 : ¬ (n : Int) = 1 := by omega
 have hne : (n : Int) = 2 * (sz : Int) + 1 := by omega
 have hnp : (0 : Int) < n := by omega
 obtain ⟨W0, e0, r0, b0, s0⟩ := newS w 30 [vp, vn, vb, vx, vy, .int .i64 (sz : Int)] _ rfl
 obtain ⟨W1, e1, r1, b1, s1⟩ := newS W0 33 [.bool false, .slice none 0 0, .slice none 0 0] _ rfl
 obtain ⟨g0, hg0⟩ : ∃ g, w.heap.size = g := ⟨_, rfl⟩
 obtain ⟨gr, hgr⟩ : ∃ g, W0.heap.size = g := ⟨_, rfl⟩
 have hbw := b0.trans (b1.mono b0.size)
 have HGL := hid (show w.heap.size ≤ gr ∧ g0 ≠ gr ∧ gr < W1.heap.size ∧ g0 < W1.heap.size by have := r1.lt; have := r0.lt; omega)
 rw [hg0] at r0
 rw [hgr] at r1
 have HB := hid hbw
 have HRR := hid r1
 have HR0 := hid (r0.later b1)
 have c5 := HR0.out.at_ (i := 5) rfl
 have hcell : W1.cell? ⟨bq, off, none⟩ = some (.int .u8 v8) := by
  have hh := (hs.later hbw (Nat.le_refl _)).first
  rw [hc8] at hh
  exact hh
 clear b0 b1 s0 s1 hbw r0 r1 hsz hD hv8 hc8 hs hb0 hl
 go_enter Tryz.func26, Tryz.ntmps26
 go_wp2_with ((with_reducible show wpList _ _ _ (⟨none, _, _, _, _, _⟩ :: _) _ _); refine wlS_store rfl 33 3 Tryz.sizeRp _ _ rfl gr [.bool true, .slice none 0 0, .slice none 0 0] rfl rfl 33 _ HRR.out rfl rfl (ones3 rfl rfl rfl) ?_; intro w6 hr6 hg6 hz6)
 exact ⟨rfl, _, results_rp2 rfl _ gr _ rfl hr6 rfl, rfl, below_grown HB.out hg6 HGL.out.1 HB.out.size⟩
theorem rDec9_long (w : World) (vc : Value) (D : Crv) (hc : Cr w vc D) (hbp : Bp D.p) (hbd : D.b < D.p) (hD : 0 < D.size ∧ D.size ≤ 200) (bq off n cp : Nat) (b0' : BitVec 8) (bs : List (BitVec 8)) (hs : SlV w w.heap.size (some ⟨bq, off, none⟩) n cp ((b0' :: bs).map W8)) (hn : n ≤ 500) (hl : n = 1 + 2 * D.size) (hb0 : b0' = 4) (X Y : Nat) (hX : numB (bs.take D.size) = X) (hY : numB (bs.drop D.size) = Y) :
  Calls Tryz.prog 26 #[vc, .slice (some ⟨bq, off, none⟩) n cp] w fun e w' => ∃ v, e = .returned (.tuple #[v, .bool (decide (onP D (some (X, Y))))]) ∧ Rp w' v (if onP D (some (X, Y)) then some (X, Y) else none) ∧ Below w.heap.size w w' := by
 have hmx : Tryz.prog.follows .mixedOrders = true := by kernel_rfl
 have hnn : n = bs.length + 1 := by simpa using hs.len
 have HCW := hid hc
 obtain ⟨sz, hsz⟩ : ∃ z, D.size = z := ⟨_, rfl⟩
 obtain ⟨vp, vn, vb, vx, vy, evc, kp, kn, kb, kx, ky⟩ := hc
 rw [hsz] at hD evc hl hX hY
 have hszi : ¬ ((D.size : Int) = 0) := by omega
 subst evc
 subst hl
 have hD2 : (sz : Int) ≤ 200 := by omega
 have hD3 : (0 : Int) < (sz : Int) := by omega
 have hD4 : ¬ (sz : Int) = 0 := by omega
 obtain ⟨v8, hv8⟩ : ∃ v : Int, i8 b0' = v := ⟨_, rfl⟩
 have hc8 : (W8 b0') = .int .u8 v8 := by rw [← hv8]
 have hv0 : v8 = 4 := by rw [← hv8, hb0]; rfl
 subst hv0
 have hne : 1 + 2 * (sz : Int) = 2 * (sz : Int) + 1 := by omega
 have hne1 : ¬ 2 * (sz : Int) + 1 = 1 := by omega
 have hnp : (0 : Int) < 2 * (sz : Int) + 1 := by omega
 have hcap := hs.cap
 have hcm := hs.max
 have hcap2 : ((1 + 2 * sz : Nat) : Int) ≤ (cp : Int) := by omega
 have hcm2 : (cp : Int) ≤ 9223372036854775807 := by omega
 obtain ⟨W0, e0, r0, b0, s0⟩ := newS w 30 [vp, vn, vb, vx, vy, .int .i64 (sz : Int)] _ rfl
 obtain ⟨W1, e1, r1, b1, s1⟩ := newS W0 33 [.bool false, .slice none 0 0, .slice none 0 0] _ rfl
 obtain ⟨g0, hg0⟩ : ∃ g, w.heap.size = g := ⟨_, rfl⟩
 obtain ⟨gr, hgr⟩ : ∃ g, W0.heap.size = g := ⟨_, rfl⟩
 have hbw := b0.trans (b1.mono b0.size)
 have HGL := hid (show w.heap.size ≤ gr ∧ g0 ≠ gr ∧ gr < W1.heap.size ∧ g0 < W1.heap.size by have := r1.lt; have := r0.lt; omega)
 rw [hg0] at r0
 rw [hgr] at r1
 have HB := hid hbw
 have HRR := hid r1
 have HR0 := hid (r0.later b1)
 have c5 := HR0.out.at_ (i := 5) rfl
 have hcell : W1.cell? ⟨bq, off, none⟩ = some (.int .u8 4) := by
  have hh := (hs.later hbw (Nat.le_refl _)).first
  rw [hc8] at hh
  exact hh
 have HSW := hid hs
 have HNN := hid hnn
 have HhX := hid hX
 have HhY := hid hY
 have HCR := hid (show Cr W1 (.agg #[vp, vn, vb, vx, vy, .int .i64 (sz : Int)]) D by have h := HCW.out.later hbw; exact h)
 have HZ := hid (And.intro hbp (And.intro hbd hszi))
 clear b0 b1 s0 s1 hbw r0 r1 hsz hD hv8 hc8 hs hb0 hnn hX hY hcap hcm hbp hbd hszi kp kn kb kx ky
 go_enter Tryz.func26, Tryz.ntmps26
 go_wp2_with fail
 clear hne hne1 hnp c5 hcell
 have HD3 := hid (show sz ≤ 200 by omega)
 refine (wpIn_wide (n := 9)).1 (wpIn_region_numB rfl hmx [(35, .val (.slice (some ⟨bq, off, none⟩) (1 + 2 * sz) cp)), (36, .val (.pointer (some ⟨g0, 5, none⟩))), (37, .val (.int .i64 (sz : Int))), (38, .val (.int .i64 (1 + (sz : Int)))), (39, .val (.slice (some ⟨bq, off + 1, none⟩) sz (cp - 1))), (40, .of (.nb X)), (41, .val (.slice (some ⟨bq, off, none⟩) (1 + 2 * sz) cp)), (42, .val (.pointer (some ⟨g0, 5, none⟩))), (43, .val (.int .i64 (sz : Int))), (44, .val (.int .i64 (1 + (sz : Int)))), (45, .val (.slice (some ⟨bq, off + (1 + sz), none⟩) sz (cp - (1 + sz)))), (46, .of (.nb Y)), (47, .of (.rp (some (X, Y)))), (6, .row 33 W1.heap.size [.bool false, .slice none 0 0, .slice none 0 0])] (by kernel_rfl) (by kernel_rfl) (by kernel_rfl) (by kernel_rfl) (by rfl) 14 rfl (by kernel_rfl) ?hopsL ?hlastL)
 case hopsL =>
  intro i o a' V hns hB ho hev hrd
  have his : i < 15 := by have := (Array.getElem?_eq_some_iff.1 ho).1; simpa using this
  have hw : IntKind.i64.wrap (1 + (sz : Int)) = 1 + (sz : Int) := by
   rw [IntKind.wrap_i64]
   omega
  have k1 : 0 ≤ 1 + (sz : Int) ∧ 1 + (sz : Int) ≤ (cp : Int) := by omega
  have k2 : (1 : Int) ≤ max (1 + (sz : Int)) 0 := by omega
  have k3 : ¬ cp = 1 := by omega
  have k4 : (1 + (sz : Int)).toNat - 1 = sz := by omega
  have k5 : 0 ≤ 1 + (sz : Int) ∧ (sz : Int) ≤ 2 * (sz : Int) := by omega
  have k6 : (1 + (sz : Int)).toNat = 1 + sz := by omega
  have k7 : ¬ cp = 1 + sz := by omega
  have k8 : 1 + 2 * sz - (1 + sz) = sz := by omega
  have hr8 := HR0.out.later hB
  have f0 := hr8.at_ (i := 5) rfl
  have hsV := HSW.out.later (HB.out.trans (hB.mono HB.out.size)) (Nat.le_refl _)
  have hd1 := hsV.drop (k := 1) (by omega)
  have hs1 : SlV V V.heap.size (some ⟨bq, off + 1, none⟩) sz (cp - 1) ((bs.take sz).map W8) := by
   have h := hd1.take (k := sz) (by omega)
   simpa [List.map_take] using h
  have hs2 : SlV V V.heap.size (some ⟨bq, off + (1 + sz), none⟩) sz (cp - (1 + sz)) ((bs.drop sz).map W8) := by
   have h := hsV.drop (k := 1 + sz) (by omega)
   have e : 1 + 2 * sz - (1 + sz) = sz := by omega
   rw [e, Nat.add_comm 1 sz] at h
   rw [Nat.add_comm 1 sz]
   simpa [List.map_drop] using h
  have hcase : i = 0 ∨ i = 1 ∨ i = 2 ∨ i = 3 ∨ i = 4 ∨ i = 5 ∨ i = 6 ∨ i = 7 ∨ i = 8 ∨ i = 9 ∨ i = 10 ∨ i = 11 ∨ i = 12 ∨ i = 13 ∨ i = 14 := by omega
  rcases hcase with rfl | rfl | rfl | rfl | rfl | rfl | rfl | rfl | rfl | rfl | rfl | rfl | rfl | rfl | rfl
  ·simp at ho
   subst ho
   have r1 := hev 1 rfl
   simp [Act.eval] at r1
   refine ⟨nofun, fun _ _ => trivial, nofun, .inl ⟨.slice (some ⟨bq, off, none⟩) (1 + 2 * sz) cp, V, ?_, Below.refl _ _, fun t ht => by cases ht; rfl⟩⟩
   simp [execOp, Act.eval, go_sem, r1, f0, hw]
  ·simp at ho
   subst ho
   have r2 := hev 2 rfl
   simp [Act.eval] at r2
   refine ⟨nofun, fun _ _ => trivial, nofun, .inl ⟨.pointer (some ⟨g0, 5, none⟩), V, ?_, Below.refl _ _, fun t ht => by cases ht; rfl⟩⟩
   simp [execOp, Act.eval, go_sem, r2, f0, hw]
  ·simp at ho
   subst ho
   have r36 : a'.eval (.tmp 36) = .pointer (some ⟨g0, 5, none⟩) := hrd 36 rfl rfl
   simp [Act.eval] at r36
   refine ⟨nofun, fun _ _ => trivial, nofun, .inl ⟨.int .i64 (sz : Int), V, ?_, Below.refl _ _, fun t ht => by cases ht; rfl⟩⟩
   simp [execOp, Act.eval, go_sem, r36, f0, hw]
  ·simp at ho
   subst ho
   have r37 : a'.eval (.tmp 37) = .int .i64 (sz : Int) := hrd 37 rfl rfl
   simp [Act.eval] at r37
   refine ⟨nofun, fun _ _ => trivial, nofun, .inl ⟨.int .i64 (1 + (sz : Int)), V, ?_, Below.refl _ _, fun t ht => by cases ht; rfl⟩⟩
   simp [execOp, Act.eval, go_sem, r37, f0, hw]
  ·simp at ho
   subst ho
   have r35 : a'.eval (.tmp 35) = .slice (some ⟨bq, off, none⟩) (1 + 2 * sz) cp := hrd 35 rfl rfl
   simp [Act.eval] at r35
   have r38 : a'.eval (.tmp 38) = .int .i64 (1 + (sz : Int)) := hrd 38 rfl rfl
   simp [Act.eval] at r38
   refine ⟨nofun, fun _ _ => trivial, nofun, .inl ⟨.slice (some ⟨bq, off + 1, none⟩) sz (cp - 1), V, ?_, Below.refl _ _, fun t ht => by cases ht; rfl⟩⟩
   simp [execOp, Act.eval, go_sem, r35, r38]
   rw [if_pos k1, if_pos k2, if_neg k3, k4]
  ·simp at ho
   subst ho
   have r39 : a'.eval (.tmp 39) = .slice (some ⟨bq, off + 1, none⟩) sz (cp - 1) := hrd 39 rfl rfl
   simp [Act.eval] at r39
   refine ⟨nofun, fun _ _ => trivial, nofun, .inr ⟨64, #[.slice (some ⟨bq, off + 1, none⟩) sz (cp - 1)], ?_, (callsIn_wide.2 (rfromb_b V _ _ _ (bs.take sz) hs1 (by have := HD3.out; omega))).mono ?_⟩⟩
   ·simp [execOp, Act.eval, r39, resolve, invoke, Deferred.ofValue]
   ·rintro e w' ⟨v, rfl, hv, hB2⟩; rw [HhX.out] at hv
    exact ⟨_, rfl, hB2, fun t ht => by cases ht; exact hv⟩
  ·simp at ho
   subst ho
   have r1 := hev 1 rfl
   simp [Act.eval] at r1
   refine ⟨nofun, fun _ _ => trivial, nofun, .inl ⟨.slice (some ⟨bq, off, none⟩) (1 + 2 * sz) cp, V, ?_, Below.refl _ _, fun t ht => by cases ht; rfl⟩⟩
   simp [execOp, Act.eval, go_sem, r1, f0, hw]
  ·simp at ho
   subst ho
   have r2 := hev 2 rfl
   simp [Act.eval] at r2
   refine ⟨nofun, fun _ _ => trivial, nofun, .inl ⟨.pointer (some ⟨g0, 5, none⟩), V, ?_, Below.refl _ _, fun t ht => by cases ht; rfl⟩⟩
   simp [execOp, Act.eval, go_sem, r2, f0, hw]
  ·simp at ho
   subst ho
   have r42 : a'.eval (.tmp 42) = .pointer (some ⟨g0, 5, none⟩) := hrd 42 rfl rfl
   simp [Act.eval] at r42
   refine ⟨nofun, fun _ _ => trivial, nofun, .inl ⟨.int .i64 (sz : Int), V, ?_, Below.refl _ _, fun t ht => by cases ht; rfl⟩⟩
   simp [execOp, Act.eval, go_sem, r42, f0, hw]
  ·simp at ho
   subst ho
   have r43 : a'.eval (.tmp 43) = .int .i64 (sz : Int) := hrd 43 rfl rfl
   simp [Act.eval] at r43
   refine ⟨nofun, fun _ _ => trivial, nofun, .inl ⟨.int .i64 (1 + (sz : Int)), V, ?_, Below.refl _ _, fun t ht => by cases ht; rfl⟩⟩
   simp [execOp, Act.eval, go_sem, r43, f0, hw]
  ·simp at ho
   subst ho
   have r41 : a'.eval (.tmp 41) = .slice (some ⟨bq, off, none⟩) (1 + 2 * sz) cp := hrd 41 rfl rfl
   simp [Act.eval] at r41
   have r44 : a'.eval (.tmp 44) = .int .i64 (1 + (sz : Int)) := hrd 44 rfl rfl
   simp [Act.eval] at r44
   refine ⟨nofun, fun _ _ => trivial, nofun, .inl ⟨.slice (some ⟨bq, off + (1 + sz), none⟩) sz (cp - (1 + sz)), V, ?_, Below.refl _ _, fun t ht => by cases ht; rfl⟩⟩
   simp [execOp, Act.eval, go_sem, r41, r44]
   rw [if_pos k5, k6, if_neg k7, k8]
  ·simp at ho
   subst ho
   have r45 : a'.eval (.tmp 45) = .slice (some ⟨bq, off + (1 + sz), none⟩) sz (cp - (1 + sz)) := hrd 45 rfl rfl
   simp [Act.eval] at r45
   refine ⟨nofun, fun _ _ => trivial, nofun, .inr ⟨64, #[.slice (some ⟨bq, off + (1 + sz), none⟩) sz (cp - (1 + sz))], ?_, (callsIn_wide.2 (rfromb_b V _ _ _ (bs.drop sz) hs2 (by have := HD3.out; omega))).mono ?_⟩⟩
   ·simp [execOp, Act.eval, r45, resolve, invoke, Deferred.ofValue]
   ·rintro e w' ⟨v, rfl, hv, hB2⟩; rw [HhY.out] at hv
    exact ⟨_, rfl, hB2, fun t ht => by cases ht; exact hv⟩
  ·simp at ho
   subst ho
   have r40 : Nb V (a'.eval (.tmp 40)) (X) := hrd 40 rfl rfl
   have r46 : Nb V (a'.eval (.tmp 46)) (Y) := hrd 46 rfl rfl
   obtain ⟨A40, n40, c40, h40⟩ := r40.sl
   rw [h40] at r40
   simp [Act.eval] at h40
   obtain ⟨A46, n46, c46, h46⟩ := r46.sl
   rw [h46] at r46
   simp [Act.eval] at h46
   refine ⟨nofun, fun _ _ => trivial, nofun, .inl ⟨.agg #[.bool false, .slice A40 n40 c40, .slice A46 n46 c46], V, ?_, Below.refl _ _, fun t ht => by cases ht; exact ⟨_, _, rfl, r40, r46⟩⟩⟩
   simp [execOp, Act.eval, go_sem, h40, h46]
  ·simp at ho
   subst ho
   refine ⟨nofun, fun _ _ => trivial, nofun, .inl ⟨.pointer (some ⟨V.heap.size, 0, none⟩), _, ?_, (Below.refl _ V).alloc (Nat.le_refl _) (.cells #[.bool false, .slice none 0 0, .slice none 0 0] 33), fun t ht => by cases ht; exact ⟨_, rfl, hB.size, RowV.new V 33 [.bool false, .slice none 0 0, .slice none 0 0]⟩⟩⟩
   simp [execOp, Act.eval, go_sem]
  ·simp at ho
   subst ho
   omega
 case hlastL =>
  intro vals o a' V hB ho hev hrd hvals
  simp at ho
  have hop : o.op = .store 33 (.tmp 6) (.tmp 47) := by subst ho; rfl
  have hd8 : readsB o 6 = true := by subst ho; rfl
  have hd59 : readsB o 47 = true := by subst ho; rfl
  have e8 : a'.eval (.tmp 6) = vals 13 := by
   obtain ⟨j, oj, hj, hjd, e⟩ := hrd 6 hd8 (by rfl)
   have hj13 : j = 13 := distinct_of (by kernel_rfl) j 13 oj _ 6 hj rfl hjd rfl
   rw [e, hj13]
  have e59 : a'.eval (.tmp 47) = vals 12 := by
   obtain ⟨j, oj, hj, hjd, e⟩ := hrd 47 hd59 (by rfl)
   have hj12 : j = 12 := distinct_of (by kernel_rfl) j 12 oj _ 47 hj rfl hjd rfl
   rw [e, hj12]
  have p13 : ∃ g, vals 13 = .pointer (some ⟨g, 0, none⟩) ∧ W1.heap.size ≤ g ∧ RowV 33 V g [.bool false, .slice none 0 0, .slice none 0 0] := hvals 13 6 _ (by decide) rfl rfl
  have p12 : Rp V (vals 12) (some (X, Y)) := hvals 12 47 _ (by decide) rfl rfl
  obtain ⟨g9, he13, hg9, hr9⟩ := p13
  obtain ⟨vX, vY, he12, hvX, hvY⟩ := p12
  obtain ⟨V', hrun, hr', hg'⟩ := exec_store (P := Tryz.prog) (w := V) (o := o) (a := a') 33 3 Tryz.sizeRp (.tmp 6) (.tmp 47) hop g9 [.bool false, vX, vY] (by rw [e8, he13]) (by rw [e59, he12]) 33 _ hr9 rfl rfl (ones3 rfl hvX.one hvY.one)
  refine ⟨(by intro c h; rw [hop] at h; cases h), (by subst ho; exact fun _ _ => trivial), undef, V', .inl ⟨hrun, rfl⟩, ?_⟩
  have hsb : Sb V V' := ⟨g9, NoU.of_row hr9 (noU3 nofun nofun nofun), hg'⟩
  have hne : g9 ≠ gr ∧ g9 ≠ g0 := by have := HGL.out; omega
  have HVX := hid (And.intro (hvX.sb hsb) (hvY.sb hsb))
  have HCRv := hid ((HCR.out.later hB).sb hsb)
  have HR0v := hid ((HR0.out.later hB).grown hg' (fun e => hne.2 e.symm))
  have HRv := hid ((HRR.out.later hB).grown hg' (fun e => hne.1 e.symm))
  have hbV := HB.out.trans (hB.mono HB.out.size)
  have HBV := hid (below_grown hbV hg' (by have := HB.out.size; omega) hbV.size)
  have HR9 := hid hr'
  have oX := hvX.one
  have oY := hvY.one
  have HO := hid (And.intro oX oY)
  clear hvX hvY hsb hne hbV hr9 hrun hg' hvals hrd hev ho hop e8 e59 he12 oX oY
  simp [wrote, Act.put]
  rw [he13]
  clear he13
  have p0 := HR9.out.at_ (i := 0) rfl
  have p1 := HR9.out.at_ (i := 1) rfl
  have p2 := HR9.out.at_ (i := 2) rfl
  have c0 := HR0v.out.at_ (i := 0) rfl
  have c1 := HR0v.out.at_ (i := 1) rfl
  have c2 := HR0v.out.at_ (i := 2) rfl
  have c3 := HR0v.out.at_ (i := 3) rfl
  have c4 := HR0v.out.at_ (i := 4) rfl
  have c5 := HR0v.out.at_ (i := 5) rfl
  go_wp2_with fail
  refine (rOn9_any V' _ (.agg #[.bool false, vX, vY]) D HCRv.out HZ.out.1 HZ.out.2.1 HZ.out.2.2 (some (X, Y)) ⟨_, _, rfl, HVX.out.1, HVX.out.2⟩).mono ?_
  rintro e w10 ⟨rfl, hb10⟩
  have hr10 := HRv.out.later hb10
  have h9 := HR9.out.later hb10
  replace p0 := h9.at_ (i := 0) rfl
  replace p1 := h9.at_ (i := 1) rfl
  replace p2 := h9.at_ (i := 2) rfl
  have HB10 := hid (HBV.out.trans (hb10.mono HBV.out.size))
  have HVX10 := hid (And.intro (HVX.out.1.later hb10) (HVX.out.2.later hb10))
  have HR10 := hid hr10
  clear hb10 c0 c1 c2 c3 c4 c5 h9 hr10
  by_cases has : onP D (some (X, Y))
  ·rw [decide_eq_true has]
   have HAS := hid has
   clear has
   go_wp2_with ((with_reducible show wpList _ _ _ (⟨none, _, _, _, _, _⟩ :: _) _ _); refine wlS_store rfl 33 3 Tryz.sizeRp _ _ rfl gr [.bool false, vX, vY] rfl rfl 33 _ HR10.out rfl rfl (ones3 rfl HO.out.1 HO.out.2) ?_; intro w12 hr12 hg12 hz)
   have hrp : Rp w12 (.agg #[.bool false, vX, vY]) (some (X, Y)) := ⟨_, _, rfl, HVX10.out.1.sb ⟨gr, NoU.of_row HR10.out (noU3 nofun nofun nofun), hg12⟩, HVX10.out.2.sb ⟨gr, NoU.of_row HR10.out (noU3 nofun nofun nofun), hg12⟩⟩
   have hbe := below_grown HB10.out hg12 HGL.out.1 HB10.out.size
   refine ⟨rfl, _, results_rp2 rfl _ gr _ rfl hr12 rfl, ?_⟩
   have hd := decide_eq_true HAS.out
   have hi : (if onP D (some (X, Y)) then some (X, Y) else none) = some (X, Y) := if_pos HAS.out
   first | exact ⟨_, rfl, hrp, hbe⟩ | (rw [hg0] at hbe; exact ⟨_, rfl, hrp, hbe⟩) | (refine ⟨_, by rw [hd]; rfl, by rw [hi]; exact hrp, hbe⟩) | (rw [hg0] at hbe; refine ⟨_, by rw [hd]; rfl, by rw [hi]; exact hrp, hbe⟩)
  ·rw [decide_eq_false has]
   have HAS := hid has
   clear has
   go_wp2_with ((with_reducible show wpList _ _ _ (⟨none, _, _, _, _, _⟩ :: _) _ _); refine wlS_store rfl 33 3 Tryz.sizeRp _ _ rfl gr [.bool true, .slice none 0 0, .slice none 0 0] rfl rfl 33 _ HR10.out rfl rfl (ones3 rfl rfl rfl) ?_; intro w12 hr12 hg12 hz)
   have hrp : Rp w12 (.agg #[.bool true, .slice none 0 0, .slice none 0 0]) none := ⟨_, _, rfl, Nb.nil _, Nb.nil _⟩
   have hbe := below_grown HB10.out hg12 HGL.out.1 HB10.out.size
   refine ⟨rfl, _, results_rp2 rfl _ gr _ rfl hr12 rfl, ?_⟩
   have hd := decide_eq_false HAS.out
   have hi : (if onP D (some (X, Y)) then some (X, Y) else none) = none := if_neg HAS.out
   first | exact ⟨_, rfl, hrp, hbe⟩ | (rw [hg0] at hbe; exact ⟨_, rfl, hrp, hbe⟩) | (refine ⟨_, by rw [hd]; rfl, by rw [hi]; exact hrp, hbe⟩) | (rw [hg0] at hbe; refine ⟨_, by rw [hd]; rfl, by rw [hi]; exact hrp, hbe⟩)
def BytesV (w : World) (v : Value) (bs : List (BitVec 8)) : Prop := ∃ A n c, v = .slice A n c ∧ SlV w w.heap.size A n c (bs.map W8)
theorem BytesV.later {w w' : World} {v : Value} {bs : List (BitVec 8)} (h : BytesV w v bs) (hb : Below w.heap.size w w') : BytesV w' v bs := by
 obtain ⟨A, n, c, e, hs⟩ := h
 exact ⟨A, n, c, e, hs.later hb (Nat.le_refl _)⟩
theorem BytesV.of_own {w : World} {base : Nat} {v : Value} {n : Nat} {bs : List (BitVec 8)} (h : w.ownsRow base 5 1 v n (bs.map W8)) : BytesV w v bs := by
 obtain ⟨A, c, rfl, h1, -⟩ := SlV.of_own' h
 exact ⟨_, _, _, rfl, h1⟩
theorem ones8b (bs : List (BitVec 8)) : Ones (bs.map W8) := by
 intro v hv
 obtain ⟨x, _, rfl⟩ := List.mem_map.1 hv
 rfl
theorem rbytes_b (w : World) (a : Value) (x : Nat) (ha : Nb w a x) (m : Nat) (hm : m ≤ 65536) (hlt : x < 256 ^ m) :
  Calls Tryz.prog 65 #[a, .int .i64 (m : Int)] w fun e w' => ∃ g, e = .returned (.tuple #[.slice (some ⟨g, 0, none⟩) m m, .bool true]) ∧ RowV 5 w' g ((beW m x).map W8) ∧ Below w.heap.size w w' := by
 obtain ⟨xs, A, n, c, rfl, hs, hn, hl⟩ := ha
 refine (rbytes_yes w _ (Nat.le_refl _) A n c xs hs x hn (by omega) m hm hlt).mono ?_
 rintro e w' ⟨g, rfl, hr, hb⟩
 refine ⟨g, rfl, ?_, hb⟩
 rw [beW_W8]
 exact hr
theorem beW_length (n N : Nat) : (beW n N).length = n := by
 unfold beW
 rw [List.length_map, be_length]
theorem rEnc9_inf (w : World) (vc : Value) (D : Crv) (hc : Cr w vc D) (a b : Value) :
  Calls Tryz.prog 27 #[vc, .agg #[.bool true, a, b]] w fun e w' => ∃ v, e = .returned v ∧ BytesV w' v [0] ∧ Below w.heap.size w w' := by
 obtain ⟨vp, vn, vb, vx, vy, rfl, kp, kb⟩ := hc.pr
 obtain ⟨W0, e0, r0, b0, s0⟩ := newS w 30 [vp, vn, vb, vx, vy, .int .i64 (D.size : Int)] _ rfl
 obtain ⟨W1, e1, r1, b1, s1⟩ := newS W0 33 [.bool true, a, b] _ rfl
 obtain ⟨W2, e2, r2, b2, s2⟩ := newS W1 5 [.int .u8 0] _ rfl
 have hb1 := b0.trans (b1.mono b0.size)
 have HB := hid (hb1.trans (b2.mono hb1.size))
 have HR2 := hid r2
 have d0 := r1.at_ (i := 0) rfl
 clear b0 b1 b2 s0 s1 s2 r0 r1 r2 hb1 hc kp kb
 go_enter Tryz.func27, Tryz.ntmps27
 go_wp2
 go_ret
 exact ⟨_, rfl, ⟨_, _, _, rfl, HR2.out.sl (by decide)⟩, HB.out⟩
theorem rEnc9_some (w : World) (vc : Value) (D : Crv) (hc : Cr w vc D) (hD : 0 < D.size ∧ D.size ≤ 200) (a b : Value) (x y : Nat) (ha : Nb w a x) (hb : Nb w b y) (hx : x < 256 ^ D.size) (hy : y < 256 ^ D.size) :
  Calls Tryz.prog 27 #[vc, .agg #[.bool false, a, b]] w fun e w' => ∃ v, e = .returned v ∧ BytesV w' v (encN D.size (some (x, y))) ∧ Below w.heap.size w w' := by
 obtain ⟨sz, hsz⟩ : ∃ z, D.size = z := ⟨_, rfl⟩
 obtain ⟨vp, vn, vb, vx, vy, evc, kp, kb⟩ := hc.pr
 rw [hsz] at hD evc hx hy
 rw [hsz]
 subst evc
 have hD2 : (sz : Int) ≤ 200 := by omega
 have hD3 : (0 : Int) < (sz : Int) := by omega
 have HD := hid hD
 obtain ⟨W0, e0, r0, b0, s0⟩ := newS w 30 [vp, vn, vb, vx, vy, .int .i64 (sz : Int)] _ rfl
 obtain ⟨W1, e1, r1, b1, s1⟩ := newS W0 33 [.bool false, a, b] _ rfl
 obtain ⟨g0, hg0⟩ : ∃ g, w.heap.size = g := ⟨_, rfl⟩
 obtain ⟨g1, hg1⟩ : ∃ g, W0.heap.size = g := ⟨_, rfl⟩
 have hbw := b0.trans (b1.mono b0.size)
 rw [hg0] at r0
 rw [hg1] at r1
 have HB := hid hbw
 have HR0 := hid (r0.later b1)
 have HR1 := hid r1
 have HA := hid (ha.later hbw)
 have HBB := hid (hb.later hbw)
 have HX := hid (And.intro hx hy)
 have d0 := HR1.out.at_ (i := 0) rfl
 have d1 := HR1.out.at_ (i := 1) rfl
 have c5 := HR0.out.at_ (i := 5) rfl
 clear b0 b1 s0 s1 r0 r1 hbw hc kp kb ha hb hx hy hD hsz
 go_enter Tryz.func27, Tryz.ntmps27
 go_wp2_with fail
 refine (rbytes_b W1 a x HA.out sz (by omega) HX.out.1).mono ?_
 rintro e w2 ⟨gx, rfl, hrx, hb2⟩
 replace HR0 := hid (HR0.out.later hb2)
 replace HR1 := hid (HR1.out.later hb2)
 replace HBB := hid (HBB.out.later hb2)
 replace HB := hid (HB.out.trans (hb2.mono HB.out.size))
 have HRX := hid hrx
 clear hb2 hrx d0 d1 c5 HA
 have d2 := HR1.out.at_ (i := 2) rfl
 have c5 := HR0.out.at_ (i := 5) rfl
 go_wp2_with fail
 refine (rbytes_b w2 b y HBB.out sz (by omega) HX.out.2).mono ?_
 rintro e w3 ⟨gy, rfl, hry, hb3⟩
 replace HRX := hid (HRX.out.later hb3)
 replace HB := hid (HB.out.trans (hb3.mono HB.out.size))
 have HRY := hid hry
 clear hb3 hry d2 c5 HBB HR0 HR1
 obtain ⟨W4, e4, r4, b4, s4⟩ := newS w3 5 [.int .u8 4] _ rfl
 obtain ⟨gn, hgn⟩ : ∃ g, w3.heap.size = g := ⟨_, rfl⟩
 rw [hgn] at r4
 have hlx := HRX.out.lt
 have hly := HRY.out.lt
 have hbs := HB.out.size
 have ho : W4.ownsRow w.heap.size 5 1 (.slice (some ⟨gn, 0, none⟩) 1 1) 1 (([4] : List (BitVec 8)).map W8) := own_of_row r4 (by omega) rfl (by decide) (by decide) rfl
 have hsx := (HRX.out.later b4).sl (by rw [List.length_map, beW_length]; omega)
 have hsy := (HRY.out.later b4).sl (by rw [List.length_map, beW_length]; omega)
 rw [List.length_map, beW_length] at hsx hsy
 have HB4 := hid (HB.out.trans (b4.mono HB.out.size))
 have HNE := hid (show gy ≠ gn by omega)
 have HO := hid ho
 have HSX := hid hsx
 have HSY := hid hsy
 have HBS := hid (show w.heap.size ≤ W4.heap.size from HB4.out.size)
 clear hsx hsy ho hlx hly hbs r4 b4 s4 HB HRX HRY
 go_wp2_with (first | (at_builtin; refine wlv_append Tryz.elem8 rfl _ _ rfl w.heap.size _ 1 _ rfl HO.out (some ⟨gx, 0, none⟩) sz sz _ rfl (fun h => by cases h) _ HSX.out (ones8b (beW sz x)) (by omega) HBS.out ?_; intro v5 w5 hown5 hgr5; rw [← List.map_append] at hown5; have HO5 := hid hown5; have HSY5 := hid (HSY.out.grownV hgr5 (by intro b off s e; cases e; exact HNE.out)); have HB5 := hid (HB4.out.grown hgr5 HBS.out (fun q hq => (HO.out.lt q hq).1)); have HBS5 := hid (Nat.le_trans HBS.out hgr5.size); clear hown5 hgr5) | (at_builtin; refine wlv_append Tryz.elem8 rfl _ _ rfl w.heap.size _ (1 + sz) _ rfl HO5.out (some ⟨gy, 0, none⟩) sz sz _ rfl (fun h => by cases h) _ HSY5.out (ones8b (beW sz y)) (by omega) HBS5.out ?_; intro v6 w6 hown6 hgr6; rw [← List.map_append] at hown6))
 go_ret
 refine ⟨_, rfl, BytesV.of_own (by rw [show encN sz (some (x, y)) = [4] ++ beW sz x ++ beW sz y from by simp [encN]]; exact hown6), HB5.out.grown hgr6 HBS5.out (fun q hq => (HO5.out.lt q hq).1)⟩
theorem wpIn_region_numGB {F : Fence} {n : Nat} {P : Program} {id : Nat} {ops : Array Oper} {Q : Exit → Act → World → Prop} {a : Act} {w : World} (hF : F.depth = none) (hm : P.follows .mixedOrders = true)
  (L : List (Nat × SpB)) (Gs : List (Nat × Bool)) (hd : distinctB ops = true) (hdep : depsG ops (L.map (·.1)) = true) (hon : onlyB ops (L.map (·.1)) = true) (hord : orderedB ops = true) (hsz : (L.map (·.1)).all (fun t => decide (t < a.tmps.size)) = true)
  (hgs : guardsB ops Gs = true) (hgk : Gs.all (fun p => (L.map (·.1)).contains p.1) = true) (hGv : ∀ p ∈ Gs, ∀ v V, spbAt L p.1 v V → v = .bool p.2)
  (hops : ∀ (i : Nat) (o : Oper) (a' : Act) (V : World), Below w.heap.size w V → ops[i]? = some o → (∀ t, (L.map (·.1)).contains t = false → a'.eval (.tmp t) = a.eval (.tmp t)) → (∀ t, readsG o t = true → (L.map (·.1)).contains t = true → spbAt L t (a'.eval (.tmp t)) V) → OpOkB F n P L a' V o)
  (hend : ∀ (vals : Nat → Value) V, Below w.heap.size w V → (∀ (i t : Nat) (o : Oper), ops[i]? = some o → o.dst = some t → spbAt L t (vals i) V) →
   Q .normal { tmps := wrote ops vals (Array.replicate ops.size true) a.tmps ops.size, defers := a.defers } V) : (Code.region id ops true).wpIn F n P Q a w := by
 refine wpIn_region_treeG hF hm (L.map (·.1)) Gs hd hdep hon hord hsz hgs hgk (fun V => Below w.heap.size w V) (below_drewN (Below.refl _ w) 1) (fun _ V V' => Below V.heap.size V V') (spbAt L) hGv (fun _ V V' _ _ hb t v h => h.later hb) (fun _ _ => True) (fun _ _ _ _ _ _ _ _ _ => trivial) ?_ ?_
 ·intro i o a' V hI ho hev hrd
  obtain ⟨h1, h2, h3, h4⟩ := hops i o a' V hI ho hev hrd
  refine ⟨h1, h2, ?_⟩
  rcases h4 with ⟨v, V', hr, hB, hP⟩ | ⟨f, args, hr, hc⟩
  ·exact .inl ⟨v, V', .inl hr, hI.trans (hB.mono hI.size), hB, hP, fun h => absurd h h3⟩
  ·refine .inr ⟨f, args, hr, hc.mono ?_⟩
   rintro e w' ⟨v, rfl, hB, hP⟩
   exact ⟨v, rfl, hI.trans (hB.mono hI.size), hB, hP, fun h => absurd h h3⟩
 ·intro vals V hI hP _
  exact hend vals V hI hP
def b8u (x : BitVec 8) : UInt8 := UInt8.ofBitVec x
theorem b8u_inj {x y : BitVec 8} (h : b8u x = b8u y) : x = y := by
 have := congrArg UInt8.toBitVec h
 simpa [b8u] using this
def strB (bs : List (BitVec 8)) : ByteArray := ⟨(bs.map b8u).toArray⟩
def strV (bs : List (BitVec 8)) : Value := .string (strB bs)
theorem strB_toList (bs : List (BitVec 8)) : (strB bs).toList = bs.map b8u := by rw [strB, ByteArray.toList_mk]
theorem map_b8u_inj : ∀ (a b : List (BitVec 8)), (a.map b8u == b.map b8u) = decide (a = b)
 | [], [] => rfl
 | [], _ :: _ => rfl
 | _ :: _, [] => rfl
 | x :: a, y :: b => by
  simp only [List.map_cons, List.cons_beq_cons, map_b8u_inj a b]
  by_cases h : x = y
  ·subst h; simp
  ·have : (b8u x == b8u y) = false := by
    rw [beq_eq_false_iff_ne]
    exact fun e => h (b8u_inj e)
   simp [this, h]
theorem eql_str {P : Program} (w : World) (t : TypeId) (a b : List (BitVec 8)) : (binOp .eql t (strV a) (strV b)).run P w = .ok (.bool (decide (a = b))) w := by
 unfold strV
 rw [binOp_string_eql, strB_toList, strB_toList, map_b8u_inj]
 simp [Sem.run_pure]
theorem eqGuard_str {P : Program} (w : World) (op : BinOp) (t : TypeId) (x y : Operand) (a b : List (BitVec 8)) : (eqGuard op t x y (strV a) (strV b)).run P w = .ok () w := by
 unfold strV
 cases op <;> simp [eqGuard, go_sem]
theorem conv_str {w : World} {B n c : Nat} {A : Option Addr} {bs : List (BitVec 8)} (h : SlV w B A n c (bs.map W8)) : (convert 49 9 (.slice A n c)).run Tryz.prog w = .ok (strV bs) w := by
 have hl : n = bs.length := by simpa using h.len
 cases A with
 | none =>
  have : bs = [] := by
   apply Classical.byContradiction
   intro hn
   obtain ⟨b, off, e, _⟩ := h.2.2.2 (by simpa using hn)
   cases e
  subst this
  subst hl
  rw [run_convert_bytes_string w _ _ 5 none _ c Tryz.underlying49 Tryz.underlying5 Tryz.underlying9]
  rfl
 | some ad =>
  have hb := run_convert_bytes_back (P := Tryz.prog) w 49 9 5 ad c (bs.map b8u) Tryz.underlying49 Tryz.underlying5 Tryz.underlying9 (fun j hj => by
   rw [List.length_map] at hj
   obtain ⟨b, off, e, _, hc⟩ := h.2.2.2 (by intro e; rw [List.map_eq_nil_iff] at e; subst e; simp at hj)
   injection e with e
   subst e
   rw [Addr.add_lit, hc j (W8 bs[j]) (by rw [List.getElem?_map, List.getElem?_eq_getElem hj]; rfl)]
   simp [W8, i8, b8u])
  rw [List.length_map, ← hl] at hb
  exact hb
theorem short_any (w : World) (B : Nat) (A : Option Addr) (n c : Nat) (bs : List (BitVec 8)) (hs : SlV w B A n c (bs.map W8)) (m : Nat) (hm : m ≤ 1000000) :
  Calls Tryz.prog 23 #[.slice A n c, .int .i64 (m : Int)] w fun e w' => e = .returned (.slice A (min n m) c) ∧ w = w' := by
 have h1 := hs.cap
 have h2 := hs.max
 have hmI : (m : Int) ≤ 1000000 := by omega
 have hm0 : (0 : Int) ≤ m := by omega
 have hnI : (n : Int) ≤ 9223372036854775807 := by omega
 by_cases h : m < n
 ·obtain ⟨b, off, v, rfl, _, _, _⟩ := hs.at_ (k := 0) (by omega)
  have hI : (m : Int) < n := by omega
  have hmc : (m : Int) ≤ c := by omega
  have hmn : min n m = m := by omega
  have HMN := hid hmn
  clear hs h hmn
  go_enter Tryz.func23, Tryz.ntmps23
  go_wp2
  go_ret
  rw [HMN.out]
  exact ⟨rfl, rfl⟩
 ·have hI : (n : Int) ≤ m := by omega
  have hmn : min n m = n := by omega
  have HMN := hid hmn
  clear hs h hmn
  go_enter Tryz.func23, Tryz.ntmps23
  go_wp2
  go_ret
  rw [HMN.out]
  exact ⟨rfl, rfl⟩
end Go.Proofs.YtbejcollbkeedaaGreat
namespace Go.Proofs.YtbejcollbkeedaaGreat
open Go.RowKit Cw
theorem crv_size {c : Int} {D : Crv} (h : crvOf c = some D) : 0 < D.size ∧ D.size ≤ 200 ∧ D.p < 256 ^ D.size := by
 rcases crv_two h with rfl | rfl
 ·exact ⟨by decide, by decide, by decide +kernel⟩
 ·exact ⟨by decide, by decide, by decide +kernel⟩
theorem decN_zero {D : Crv} {bs : List (BitVec 8)} : decN D (0 :: bs) = if bs = [] then some none else none := by
 unfold decN
 by_cases h : bs = []
 ·subst h; simp
 ·rw [if_neg (by simpa using h), if_neg (by simp), if_neg h]
theorem decN_other {D : Crv} {b : BitVec 8} {bs : List (BitVec 8)} (h0 : b ≠ 0) (h4 : b ≠ 4) : decN D (b :: bs) = none := by
 unfold decN
 rw [if_neg (fun h => h0 (by injection h)), if_neg (fun h => h4 (by have := h.1; simpa using this))]
theorem decN_len {D : Crv} {b : BitVec 8} {bs : List (BitVec 8)} (h0 : b ≠ 0) (hl : bs.length + 1 ≠ 1 + 2 * D.size) : decN D (b :: bs) = none := by
 unfold decN
 rw [if_neg (fun h => h0 (by injection h)), if_neg (by rintro ⟨-, h, -⟩; exact hl (by simpa using h))]
theorem decN_long {D : Crv} {bs : List (BitVec 8)} (hl : bs.length + 1 = 1 + 2 * D.size) : decN D (4 :: bs) = if hasN D.p D.b (some (numB (bs.take D.size), numB (bs.drop D.size))) then some (some (numB (bs.take D.size), numB (bs.drop D.size))) else none := by
 unfold decN
 rw [if_neg (by simp)]
 have e1 : ((4 :: bs).drop 1).take D.size = bs.take D.size := rfl
 have e2 : (4 :: bs).drop (1 + D.size) = bs.drop D.size := by rw [Nat.add_comm, List.drop_succ_cons]
 rw [e1, e2]
 by_cases h : hasN D.p D.b (some (numB (bs.take D.size), numB (bs.drop D.size)))
 ·rw [if_pos ⟨rfl, by simpa using hl, h⟩, if_pos h]
 ·rw [if_neg (fun h' => h h'.2.2), if_neg h]
theorem dec_enc {c : Int} {D : Crv} (hc : crvOf c = some D) {P : Option (Nat × Nat)} (has : hasN D.p D.b P) : decN D (encN D.size P) = some P := by
 obtain ⟨hs, -, hp⟩ := crv_size hc
 rcases P with _ | ⟨x, y⟩
 ·rfl
 ·have hx : x < 256 ^ D.size := Nat.lt_trans has.1 hp
  have hy : y < 256 ^ D.size := Nat.lt_trans has.2.1 hp
  have l1 := beW_length D.size x
  have l2 := beW_length D.size y
  have e1 : (beW D.size x ++ beW D.size y).take D.size = beW D.size x := by rw [List.take_append_of_le_length (by omega), List.take_of_length_le (by omega)]
  have e2 : (beW D.size x ++ beW D.size y).drop D.size = beW D.size y := by rw [List.drop_append_of_le_length (by omega), List.drop_of_length_le (by omega), List.nil_append]
  show decN D (4 :: (beW D.size x ++ beW D.size y)) = _
  rw [decN_long (by rw [List.length_append]; omega), e1, e2, numB_be _ _ hx, numB_be _ _ hy, if_pos has]
theorem enc_len {c : Int} {D : Crv} (hc : crvOf c = some D) (P : Option (Nat × Nat)) : (encN D.size P).length ≤ 500 := by
 obtain ⟨-, hs, -⟩ := crv_size hc
 rcases P with _ | ⟨x, y⟩
 ·show 1 ≤ 500
  decide
 ·simp only [encN, List.length_cons, List.length_append, beW_length]
  omega
theorem SlV.cons_form {w : World} {B n c : Nat} {A : Option Addr} {v : Value} {vs : List Value} (h : SlV w B A n c (v :: vs)) : ∃ b off, A = some ⟨b, off, none⟩ := by
 obtain ⟨b, off, e, -⟩ := h.2.2.2 (by simp)
 exact ⟨b, off, e⟩
theorem cdec_is (w : World) (c : Int) (D : Crv) (hc : crvOf c = some D) (A : Option Addr) (n cp : Nat) (bs : List (BitVec 8)) (hs : SlV w w.heap.size A n cp (bs.map W8)) (hn : n ≤ 500) :
  Calls Tryz.prog 25 #[.int .i64 c, .slice A n cp] w fun e w' => ∃ v, e = .returned (.tuple #[v, .bool (decN D bs).isSome]) ∧ Pt w' v ((decN D bs).getD none) ∧ Below w.heap.size w w' := by
 obtain ⟨hs0, hs1, -⟩ := crv_size hc
 have hl : n = bs.length := by simpa using hs.len
 have inf : ∀ W : World, Pt W inf0 none := fun W => ⟨_, _, rfl, Nu.nil _, Nu.nil _⟩
 cases bs with
 | nil =>
  obtain rfl : n = 0 := hl
  refine (cDec_nil w c D hc A cp [] hs).mono ?_
  rintro e w' ⟨rfl, hb⟩
  exact ⟨_, rfl, inf _, hb⟩
 | cons b0 bs =>
  obtain ⟨bq, off, rfl⟩ := hs.cons_form
  by_cases h0 : b0 = 0
  ·subst h0
   rw [decN_zero]
   refine (cDec_zero w c D hc bq off n cp 0 bs hs hn rfl).mono ?_
   rintro e w' ⟨rfl, hb⟩
   by_cases h1 : bs = []
   ·subst h1
    obtain rfl : n = 1 := hl
    exact ⟨_, rfl, inf _, hb⟩
   ·have hn1 : n ≠ 1 := by
     rintro rfl
     exact h1 (List.eq_nil_of_length_eq_zero (by simpa using hl.symm))
    rw [if_neg h1, decide_eq_false hn1]
    exact ⟨_, rfl, inf _, hb⟩
  ·by_cases h4 : b0 = 4
   ·subst h4
    by_cases hL : n = 1 + 2 * D.size
    ·rw [decN_long (by rw [← hL, hl]; rfl)]
     by_cases has : hasN D.p D.b (some (numB (bs.take D.size), numB (bs.drop D.size)))
     ·rw [if_pos has]
      exact cDec_good w c D hc bq off n cp 4 bs hs hn rfl hL ⟨hs0, hs1⟩ _ _ rfl rfl has
     ·rw [if_neg has]
      refine (cDec_off w c D hc bq off n cp 4 bs hs hn rfl hL ⟨hs0, hs1⟩ _ _ rfl rfl has).mono ?_
      rintro e w' ⟨rfl, hb⟩
      exact ⟨_, rfl, inf _, hb⟩
    ·rw [decN_len h0 (by rw [← List.length_cons, ← hl]; exact hL)]
     refine (cDec_len w c D hc bq off n cp 4 bs hs hn rfl hL (by omega)).mono ?_
     rintro e w' ⟨rfl, hb⟩
     exact ⟨_, rfl, inf _, hb⟩
   ·rw [decN_other h0 h4]
    refine (cDec_form w c D hc bq off n cp b0 bs hs hn h0 h4).mono ?_
    rintro e w' ⟨rfl, hb⟩
    exact ⟨_, rfl, inf _, hb⟩
theorem rdec_is (w : World) (c : Int) (D : Crv) (hc : crvOf c = some D) (vc : Value) (hcr : Cr w vc D) (A : Option Addr) (n cp : Nat) (bs : List (BitVec 8)) (hs : SlV w w.heap.size A n cp (bs.map W8)) (hn : n ≤ 500) :
  Calls Tryz.prog 26 #[vc, .slice A n cp] w fun e w' => ∃ v, e = .returned (.tuple #[v, .bool (decN D bs).isSome]) ∧ Rp w' v ((decN D bs).getD none) ∧ Below w.heap.size w w' := by
 obtain ⟨hs0, hs1, -⟩ := crv_size hc
 obtain ⟨hbp, -, -, hbl, -⟩ := crv_lims hc
 have hl : n = bs.length := by simpa using hs.len
 have inf : ∀ W : World, Rp W (.agg #[.bool true, .slice none 0 0, .slice none 0 0]) none := fun W => ⟨_, _, rfl, Nb.nil _, Nb.nil _⟩
 cases bs with
 | nil =>
  obtain rfl : n = 0 := hl
  refine (rDec9_nil w vc D hcr ⟨hs0, hs1⟩ A 0 cp rfl).mono ?_
  rintro e w' ⟨rfl, hb⟩
  exact ⟨_, rfl, inf _, hb⟩
 | cons b0 bs =>
  obtain ⟨bq, off, rfl⟩ := hs.cons_form
  by_cases h1 : n = 1
  ·have hbs : bs = [] := List.eq_nil_of_length_eq_zero (by rw [h1] at hl; simpa using hl.symm)
   by_cases h0 : b0 = 0
   ·subst h0 hbs
    refine (rDec9_zero w vc D hcr ⟨hs0, hs1⟩ bq off n cp 0 [] hs hn h1 rfl).mono ?_
    rintro e w' ⟨rfl, hb⟩
    exact ⟨_, rfl, inf _, hb⟩
   ·rw [decN_len h0 (by subst hbs; simp; omega)]
    refine (rDec9_one w vc D hcr ⟨hs0, hs1⟩ bq off n cp b0 bs hs hn h1 h0).mono ?_
    rintro e w' ⟨rfl, hb⟩
    exact ⟨_, rfl, inf _, hb⟩
  ·have hbs : bs ≠ [] := by
    rintro rfl
    exact h1 hl
   by_cases hL : n = 1 + 2 * D.size
   ·by_cases h4 : b0 = 4
    ·subst h4
     rw [decN_long (by rw [← hL, hl]; rfl)]
     refine (rDec9_long w vc D hcr hbp hbl ⟨hs0, hs1⟩ bq off n cp 4 bs hs hn hL rfl _ _ rfl rfl).mono ?_
     rintro e w' ⟨v, rfl, hr, hb⟩
     by_cases has : hasN D.p D.b (some (numB (bs.take D.size), numB (bs.drop D.size)))
     ·have hon := (has_on hc _).1 has
      rw [if_pos hon] at hr
      rw [if_pos has, decide_eq_true hon]
      exact ⟨v, rfl, hr, hb⟩
     ·have hon : ¬ onP D (some (numB (bs.take D.size), numB (bs.drop D.size))) := fun h => has ((has_on hc _).2 h)
      rw [if_neg hon] at hr
      rw [if_neg has, decide_eq_false hon]
      exact ⟨v, rfl, hr, hb⟩
    ·have hd : decN D (b0 :: bs) = none := by
      by_cases h0 : b0 = 0
      ·subst h0
       rw [decN_zero, if_neg hbs]
      ·exact decN_other h0 h4
     rw [hd]
     refine (rDec9_form w vc D hcr ⟨hs0, hs1⟩ bq off n cp b0 bs hs hn (by omega) h4).mono ?_
     rintro e w' ⟨rfl, hb⟩
     exact ⟨_, rfl, inf _, hb⟩
   ·have hd : decN D (b0 :: bs) = none := by
     by_cases h0 : b0 = 0
     ·subst h0
      rw [decN_zero, if_neg hbs]
     ·exact decN_len h0 (by rw [← List.length_cons, ← hl]; exact hL)
    rw [hd]
    refine (rDec9_len w vc D hcr ⟨hs0, hs1⟩ bq off n cp b0 bs hs hn h1 (by omega)).mono ?_
    rintro e w' ⟨rfl, hb⟩
    exact ⟨_, rfl, inf _, hb⟩
theorem cenc_is (w : World) (c : Int) (D : Crv) (hc : crvOf c = some D) (vP : Value) (P : Option (Nat × Nat)) (hP : Pg w vP P) (has : hasN D.p D.b P) :
  Calls Tryz.prog 24 #[.int .i64 c, vP] w fun e w' => ∃ v, e = .returned (.tuple #[v, .bool true]) ∧ BytesV w' v (encN D.size P) ∧ Below w.heap.size w w' := by
 obtain ⟨hs0, hs1, hp⟩ := crv_size hc
 rcases P with _ | ⟨x, y⟩
 ·refine (cEnc_inf w c D hc vP none hP rfl).mono ?_
  rintro e w' ⟨v, rfl, ho, hb⟩
  exact ⟨v, rfl, .of_own ho, hb⟩
 ·refine (cEnc_yes w c D hc vP _ hP x y rfl has hs0 (by omega) hp).mono ?_
  rintro e w' ⟨v, rfl, ho, hb⟩
  exact ⟨v, rfl, .of_own ho, hb⟩
theorem renc_is (w : World) (c : Int) (D : Crv) (hc : crvOf c = some D) (vc v : Value) (hcr : Cr w vc D) (P : Option (Nat × Nat)) (hP : Rp w v P) (has : hasN D.p D.b P) :
  Calls Tryz.prog 27 #[vc, v] w fun e w' => ∃ v', e = .returned v' ∧ BytesV w' v' (encN D.size P) ∧ Below w.heap.size w w' := by
 obtain ⟨hs0, hs1, hp⟩ := crv_size hc
 rcases P with _ | ⟨x, y⟩
 ·obtain ⟨a, b, rfl, -, -⟩ := hP
  exact rEnc9_inf w vc D hcr a b
 ·obtain ⟨a, b, rfl, h1, h2⟩ := hP
  exact rEnc9_some w vc D hcr ⟨hs0, hs1⟩ a b x y h1 h2 (Nat.lt_trans has.1 hp) (Nat.lt_trans has.2.1 hp)
def SpB.bytes (bs : List (BitVec 8)) : SpB := ⟨fun v V => BytesV V v bs, fun _ _ _ hb h => h.later hb⟩
end Go.Proofs.YtbejcollbkeedaaGreat
