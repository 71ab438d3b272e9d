/- Parts of one proof, joined: Ar. -/
import Derived.Test.YtabhdkjepbkooaaPileC3
import Derived.Test.YtabhdkjepbkooaaPileC1
import Derived.Deep.MidRow
import Derived.StillTailTactics

/- aescore: the round keys. -/
set_option linter.unusedVariables false
set_option linter.unusedSimpArgs false
namespace Go.Proofs.Ytabhdkjepbkooaa
open Go.RowKit
attribute [local go_sem] Try.zeroValue47 Try.zeroCells47_size Try.zeroCells47_ne

theorem Try.arr4 : (Try.prog.info? 68).map (·.size) = some 4 := by kernel_rfl
theorem Try.arr16 : (Try.prog.info? 49).map (·.size) = some 16 := by kernel_rfl
theorem Try.info16 : (Try.prog.info? 49).map (fun i => (i.zero, i.size, i.bytes)) = some (some (.agg (Array.replicate 16 (.int .u8 0))), 16, 16) := by kernel_rfl
theorem run_index4 (w : World) (xs : List (BitVec 8)) (hl : xs.length = 4) (k : Nat) (x : BitVec 8) (hk : xs[k]? = some x) : (Instr.index 68 (.agg (xs.map W8).toArray) (.int .i64 (k : Int))).run Try.prog w = .ok (W8 x) w := by
  have hkn : k < 4 := by rw [← hl]; exact (List.getElem?_eq_some_iff.1 hk).1
  have h0 : (0 : Int) ≤ k := by omega
  have h1 : ¬ 4 ≤ k := by omega
  simp [Instr.index, run_underlying Try.underlying68, asIntOf, part, h0, h1, hk, go_sem]
theorem new4 (w : World) : ∃ W, w.alloc (.cells #[.int .u8 0, .int .u8 0, .int .u8 0, .int .u8 0] 68) = W ∧ RowV 68 W w.heap.size ((List.replicate 4 (0 : BitVec 8)).map W8) ∧ Below w.heap.size w W ∧ W.heap.size = w.heap.size + 1 :=
  newV w 68 ((List.replicate 4 (0 : BitVec 8)).map W8) _ rfl

theorem box_cell {w : World} {g : Nat} (h : RowV 47 w g (boxL.map W8)) (x : BitVec 8) : w.cell? ⟨g, (i8 x).toNat, none⟩ = some (W8 (boxAt boxL x)) := by
  rw [i8_nat]
  exact h.at_ (map_at (l := boxL) (k := x.toNat) (by rw [boxL_length]; exact x.isLt))
set_option maxRecDepth 100000 in
set_option maxHeartbeats 16000000 in
theorem expand_any (w : World) (B : Nat) (A : Option Addr) (n c : Nat) (key : List (BitVec 8)) (hs : SlV w B A n c (key.map W8)) (hz : A = none → c = 0) (hB : B ≤ w.heap.size) (hn : n = 16 ∨ n = 24) : Calls Try.prog 19 #[.slice A n c] w fun e w' =>
    ∃ gk, e = .returned (.slice (some ⟨gk, 0, none⟩) (cntL n) (cntL n)) ∧ w.heap.size ≤ gk ∧ RowV 49 w' gk ((wholeL key).map W8) ∧ Below w.heap.size w w' := by
  have hkl : key.length = n := by have := hs.len; simpa using this.symm
  obtain ⟨g, hg⟩ : ∃ g, w.heap.size = g := ⟨_, rfl⟩
  have hsb := sbox_any w
  rw [hg] at hsb hB
  have HSB := Lib.hid hsb
  have HG := Lib.hid hg
  clear hsb hg
  have hlb : (boxL.map W8).length = 256 := by kernel_rfl
  have hcn : ((n : Int) / 4 + 7 : Int) = (cntL n : Int) := by unfold cntL; omega
  obtain ⟨C, hC⟩ : ∃ C, cntL n = C := ⟨_, rfl⟩
  obtain ⟨S, hS⟩ : ∃ S, 4 * C - n / 4 = S := ⟨_, rfl⟩
  have hCS : 16 * C = n + 4 * S := by rcases hn with rfl | rfl <;> (subst hC; subst hS; rfl)
  have hwh : wholeL key = (expN n (key, 1) S).1 := by unfold wholeL; rw [hkl, hC, hS]
  rw [hC] at hcn ⊢
  have hn2 : 16 ≤ n ∧ n ≤ 24 := by omega
  have hC15 : C ≤ 15 := by rcases hn with rfl | rfl <;> (subst hC; decide)
  have kc1 : (n : Int) ≤ 24 := by omega
  have kc2 : (16 : Int) ≤ n := by omega
  have kc3 : (C : Int) ≤ 15 := by omega
  have HW := Lib.hid hwh
  have HCS := Lib.hid hCS
  have HN := Lib.hid hn
  have HKL := Lib.hid hkl
  have HC := Lib.hid hC
  clear hwh hCS hn hkl hC hS
  go_enter Try.func19, Try.ntmps19
  go_wp2_with fail
  refine HSB.out.mono ?_
  rintro e V1 ⟨rfl, b1⟩
  obtain ⟨V2, e2, r2, b2, z2⟩ := new256 V1
  obtain ⟨g3, hg3⟩ : ∃ x, V1.heap.size = x := ⟨_, rfl⟩
  rw [hg3] at r2 b2
  have hgg : g ≤ g3 := by have h1 := b1.size; have h2 := HG.out; omega
  have HG3 := Lib.hid hg3
  go_wp2_with (refine wlv_store (o := ⟨none, _, _, _, _, _⟩) rfl 47 256 Try.arr256 _ _ rfl g3 (boxL.map W8) rfl rfl _ _ r2 (by rw [List.length_map, List.length_replicate]) hlb (ones8 _) ?_; intro V3 r3 b3 z3)
  clear hg3 e2
  have hb13 : Below g w V3 := b3 _ _ (b1.trans (b2.mono hgg)) hgg
  have hs3 := hs.below (hb13.mono hB)
  have hgz3 : g ≤ V3.heap.size := by have h1 := b2.size; have h2 := HG3.out; have h3 := b1.size; omega
  have hgz33 : g3 < V3.heap.size := r3.lt
  have hcl := clone_all V3 B A n c key hs3 hz (Nat.le_trans hB hgz3) (by have := HN.out; omega)
  refine hcl.mono ?_
  rintro e V4 ⟨v4, rfl, hown0, hb4⟩
  have HCL := Lib.hid hcl
  clear hcl b1 b2 b3 z2 z3 r2
  go_wp2
  obtain ⟨gb, hgb⟩ : ∃ x, V3.heap.size = x := ⟨_, rfl⟩
  rw [hgb] at hgz33 hown0 hgz3
  have r4 := r3.later hb4
  have hb04 := hb13.trans (hb4.mono (hgb ▸ hgz3))
  have HB13 := Lib.hid hb13
  have HB4 := Lib.hid hb4
  clear hb13 hb4 hs3 r3 hgb
  go_loopw [4, 5, 7] (fun v m i wr => ∃ k : Nat, k ≤ S ∧ i = .int .i64 ((n + 4 * k : Nat) : Int) ∧ m = W8 (expN n (key, 1) k).2 ∧ wr.ownsRow gb 5 1 v (n + 4 * k) ((expN n (key, 1) k).1.map W8) ∧ RowV 47 wr g3 (boxL.map W8) ∧ Below g w wr) (fun _ _ i _ => 16 * C - (intOf i).toNat)
  case atStart => exact ⟨0, by omega, rfl, rfl, by simpa [expN] using hown0, r4, hb04⟩
  case round =>
    obtain ⟨k, hk, rfl, rfl, hown, hrb, hBr⟩ := hrel
    obtain ⟨wo, rfl⟩ : ∃ V, V = wr := ⟨_, rfl⟩
    have hPl := expN_length n (key, 1) k
    rw [show (key, (1 : BitVec 8)).1.length = n from HKL.out] at hPl
    obtain ⟨L, hL⟩ : ∃ L, n + 4 * k = L := ⟨_, rfl⟩
    rw [hL] at hown hPl ⊢
    by_cases hk8 : k = S
    · subst hk8
      rw [show (expN n (key, 1) k).1 = wholeL key from HW.out.symm] at hown hPl
      obtain ⟨Wh, hWh⟩ : ∃ l, wholeL key = l := ⟨_, rfl⟩
      rw [hWh] at hown hPl
      have hL2 : L = 16 * C := by have := HCS.out; omega
      have hnn := HN.out
      obtain ⟨gw, c', rfl, hbase, hsv⟩ := own_form0 hown (by omega)
      have hcap := hsv.cap
      have hcm := hsv.max
      obtain ⟨b, off, e0, hlt, hcells⟩ := hsv.2.2.2 (by intro e; have := congrArg List.length e; rw [List.length_map, List.length_nil] at this; omega)
      injection e0 with e0
      injection e0 with e0 e1
      subst e0 e1
      obtain ⟨i0, hi0, hz0, hzs0, hzb0⟩ := info_parts Try.info16
      have HWH := Lib.hid hWh
      have HLC := Lib.hid hL2
      have HPL := Lib.hid hPl
      have HCE := Lib.hid hcells
      have HBR := Lib.hid hBr
      have hlt2 : ¬ (L : Int) < (C : Int) * 16 := by omega
      have kC15 : C ≤ 15 := by omega
      clear hWh hL2 hcells hsv hPl hown hrb hL
      go_wp2_with (at_make; refine wlv_makeA rfl 39 49 i0 _ (W8 0) 16 Try.underlying39 hi0 hz0 (by first | rfl | kernel_rfl) (by decide) hzs0 (by rw [hzb0]; decide) (by decide) _ rfl (C : Int) C rfl rfl (by omega) ?_; intro W5 r5 b5 z5)
      obtain ⟨gk, hgk⟩ : ∃ x, wo.heap.size = x := ⟨_, rfl⟩
      rw [hgk] at r5 b5 hlt ⊢
      have HGK := Lib.hid hgk
      have HB5 := Lib.hid b5
      have ggk : g ≤ gk := by have h1 := HBR.out.size; have h2 := HG.out; omega
      clear hgk b5
      rw [repl_start Wh C] at r5
      go_loopw [113] (fun i wr => ∃ j : Nat, j ≤ C ∧ i = .int .i64 (j : Nat) ∧ RowV 49 wr gk ((Wh.take (16 * j) ++ List.replicate (16 * (C - j)) (0 : BitVec 8)).map W8) ∧ Below gk W5 wr) (fun i _ => C - (intOf i).toNat)
      case atStart => exact ⟨0, by omega, rfl, r5, Below.refl _ _⟩
      case round =>
        obtain ⟨j, hj, rfl, hrj, hbj⟩ := hrel
        by_cases hjC : j = C
        · rw [hjC] at hrj
          rw [hjC]
          have hRE := hrj
          rw [Nat.sub_self, Nat.mul_zero, List.replicate_zero, List.append_nil, List.take_of_length_le (by have := HPL.out; have := HLC.out; omega)] at hRE
          have HRE := Lib.hid hRE
          clear hrj hRE
          go_wp2
          go_ret
          exact ⟨gk, rfl, by rw [HG.out]; exact ggk, by rw [HWH.out]; exact HRE.out, by rw [HG.out]; exact HBR.out.trans (((HB5.out.mono ggk)).trans (hbj.mono ggk))⟩
        · have hji : (j : Int) < C := by omega
          obtain ⟨p, hp⟩ : ∃ p, 16 * j = p := ⟨_, rfl⟩
          have ip : 16 * (j : Int) = (p : Int) := by omega
          have hpl := HPL.out
          have hlc := HLC.out
          have hpL : p + 16 ≤ L := by omega
          have jp : (p : Int) ≤ L := by omega
          have jp2 : (p : Int) ≤ c' := by omega
          have hat : ∀ w, (Instr.arrayAt 49 (.slice (some ⟨gw, p, none⟩) (L - p) (c' - p))).run Try.prog w = .ok (.pointer (some ⟨gw, p, none⟩)) w := fun w => by
            simp [Instr.arrayAt, run_underlying Try.underlying49, show ¬ (L - p < 16) by omega]
          obtain ⟨ck, hck⟩ : ∃ l, (Wh.drop p).take 16 = l := ⟨_, rfl⟩
          have hckl : ck.length = 16 := by rw [← hck]; simp; omega
          have hrng : wr.rangeAt gw p (ck.map W8) := by
            intro t v hv
            have ht : t < 16 := by have := (List.getElem?_eq_some_iff.1 hv).1; rw [List.length_map] at this; omega
            have h1 := HCE.out (p + t) v (by rw [← hv, ← hck]; simp [List.getElem?_take, List.getElem?_drop, ht])
            rw [Nat.zero_add] at h1
            exact ((hbj.cell (p := ⟨gw, p + t, none⟩) hlt).trans (HB5.out.cell (p := ⟨gw, p + t, none⟩) hlt)).trans h1
          have hckm : (ck.map W8).length = 16 := by rw [List.length_map]; exact hckl
          have hszr : ((Wh.take (16 * j) ++ List.replicate (16 * (C - j)) (0 : BitVec 8)).map W8).length = 16 * C := by simp; omega
          have hth := hrj.there p (ck.map W8).toArray.size (by rw [hszr]; simp; omega)
          have hns := hrj.setMany (ck.map W8) p wr _ (by rw [hszr, hckm]; omega)
          have hnb := below_setMany (Nat.le_refl gk) (ck.map W8) p W5 wr hbj
          have hval : ((Wh.take (16 * j) ++ List.replicate (16 * (C - j)) (0 : BitVec 8)).map W8).take p ++ (ck.map W8 ++ ((Wh.take (16 * j) ++ List.replicate (16 * (C - j)) (0 : BitVec 8)).map W8).drop (p + (ck.map W8).length)) = (Wh.take (16 * (j + 1)) ++ List.replicate (16 * (C - (j + 1))) (0 : BitVec 8)).map W8 := by
            rw [hckm, ← List.map_take, ← List.map_drop, ← List.map_append, ← List.map_append]
            congr 1
            have e1 : (Wh.take (16 * j)).length = p := by rw [List.length_take]; omega
            rw [List.take_append_of_le_length (by omega), List.take_of_length_le (by omega), List.drop_append, e1, List.drop_of_length_le (by omega), List.nil_append, List.drop_replicate, show p + 16 - p = 16 by omega, show 16 * (C - j) - 16 = 16 * (C - (j + 1)) by omega, ← List.append_assoc, ← hck, hp, show 16 * (j + 1) = p + 16 by omega, List.take_add]
          rw [hval] at hns
          have HNS := Lib.hid hns
          have HNB := Lib.hid hnb
          have HBJ := Lib.hid hbj
          have hpL2 : (p : Int) + 16 ≤ c' := by omega
          have hjp0 := hp
          clear hns hnb hval hrj hbj hp hck hpl hlc hszr
          have hjp : j * 16 = p := by omega
          clear hjp0
          go_wp2_with (first | ((with_reducible show wpList _ _ _ (⟨some 123, _, _, _, _, _⟩ :: _) _ _); refine wpList_load_mid rfl 49 _ rfl gw p rfl (ck.map W8) _ hrng Try.underlying49 rfl (Try.arr16.trans (by rw [hckm])) ?_) | ((with_reducible show wpList _ _ _ (⟨none, _, _, _, _, _⟩ :: _) _ _); refine wpList_store_mid rfl 49 _ _ rfl gk p (ck.map W8).toArray rfl rfl hth (Try.arr16.trans (by simp [hckl])) (all_oneCell_toArray (ones8 ck)) ?_))
          go_roundw
          case rel => exact ⟨j + 1, by omega, by go_num, HNS.out, HNB.out⟩
          case measure => simp [intOf]; omega
    · have hkS : (L : Int) < (C : Int) * 16 := by have := HCS.out; omega
      obtain ⟨W, hW⟩ : ∃ W, (expN n (key, 1) k).1 = W := ⟨_, rfl⟩
      obtain ⟨m, hm⟩ : ∃ m, (expN n (key, 1) k).2 = m := ⟨_, rfl⟩
      rw [hW] at hown hPl
      rw [hm]
      have hnn := HN.out
      obtain ⟨gw, c', rfl, hbase, hsv⟩ := own_form0 hown (by omega)
      have hcells := hsv.2.2.2 (by intro e; have := congrArg List.length e; simp at this; subst this; simp at hPl; omega)
      obtain ⟨b, off, e0, hlt, hcells⟩ := hcells
      injection e0 with e0
      injection e0 with e0 e1
      subst e0 e1
      obtain ⟨l4, hl4⟩ : ∃ x, L - 4 = x := ⟨_, rfl⟩
      have i4 : (L : Int) - 4 = (l4 : Int) := by omega
      have hcap := hsv.cap
      have hcm := hsv.max
      have j4 : (l4 : Int) ≤ (L : Int) := by omega
      have j5 : (l4 : Int) ≤ (c' : Int) := by omega
      obtain ⟨x0, hx0⟩ : ∃ x, W.getD l4 0 = x := ⟨_, rfl⟩
      obtain ⟨x1, hx1⟩ : ∃ x, W.getD (l4 + 1) 0 = x := ⟨_, rfl⟩
      obtain ⟨x2, hx2⟩ : ∃ x, W.getD (l4 + 2) 0 = x := ⟨_, rfl⟩
      obtain ⟨x3, hx3⟩ : ∃ x, W.getD (l4 + 3) 0 = x := ⟨_, rfl⟩
      have hrng : wo.rangeAt gw (0 + l4) ([x0, x1, x2, x3].map W8) := by
        intro j v hv
        rw [Nat.add_assoc]
        refine hcells (l4 + j) v ?_
        have hj : j < 4 := (List.getElem?_eq_some_iff.1 hv).1
        have hj2 : j = 0 ∨ j = 1 ∨ j = 2 ∨ j = 3 := by omega
        rcases hj2 with rfl | rfl | rfl | rfl
        · rw [map_at (by omega), Nat.add_zero, hx0]; exact hv
        · rw [map_at (by omega), hx1]; exact hv
        · rw [map_at (by omega), hx2]; exact hv
        · rw [map_at (by omega), hx3]; exact hv
      rw [Nat.zero_add] at hrng
      have hat : ∀ w, (Instr.arrayAt 68 (.slice (some ⟨gw, l4, none⟩) (L - l4) (c' - l4))).run Try.prog w = .ok (.pointer (some ⟨gw, l4, none⟩)) w := fun w => by
        simp [Instr.arrayAt, run_underlying Try.underlying68, show ¬ (L - l4 < 4) by omega]
      have hl4' : ([x0, x1, x2, x3].map W8).length = 4 := rfl
      obtain ⟨V1, e1, r1, b1, z1⟩ := new4 wo
      obtain ⟨g8, hg8⟩ : ∃ x, wo.heap.size = x := ⟨_, rfl⟩
      rw [hg8] at r1 b1
      have hg3 : g3 < g8 := by rw [← hg8]; exact hrb.lt
      have hgw : gw < g8 := by rw [← hg8]; exact hlt
      have HLN := Lib.hid hL
      have HLB := Lib.hid (show L ≤ 1000 by have := HCS.out; omega)
      have HX := Lib.hid (And.intro hx0 (And.intro hx1 (And.intro hx2 hx3)))
      have HWM := Lib.hid (And.intro hW hm)
      have HPL := Lib.hid hPl
      have HCL := Lib.hid hcells
      have HG8 := Lib.hid hg8
      clear hx0 hx1 hx2 hx3 hW hm hPl hsv hcells hL
      by_cases hr0 : L % n = 0
      · have hr0I : (L : Int) % (n : Int) = 0 := by omega
        go_wp2_with (first | ((with_reducible show wpList _ _ _ (⟨some 33, _, _, _, _, _⟩ :: _) _ _); refine wpList_load_mid rfl 68 _ rfl gw l4 rfl ([x0, x1, x2, x3].map W8) _ hrng Try.underlying68 rfl (Try.arr4.trans (by rw [hl4'])) ?_) | ((with_reducible show wpList _ _ _ (⟨none, _, _, _, _, _⟩ :: _) _ _); refine wlv_store rfl 68 4 Try.arr4 _ _ rfl g8 ([x0, x1, x2, x3].map W8) rfl rfl _ _ r1 rfl hl4' (ones8 _) ?_; intro V2 r2 b2 z2; have HB2 := Lib.hid (b2 _ _ b1 (Nat.le_refl _)); have HR2 := Lib.hid r2; clear r2 b2 z2))
        refine wp_region_still_tail 19 (by kernel_rfl) (by kernel_rfl) ?_
        simp only [List.take_succ_cons, List.take_zero, List.drop_succ_cons, List.drop_zero]
        show wpStill _ _ (World.drew _) (fun a' => wpList _ _ _ _ a' (World.drew _)) _ _
        generalize hV3 : World.drew _ = V3'
        have hr8 : RowV 68 V3' g8 ([x0, x1, x2, x3].map W8) := by rw [← hV3]; exact HR2.out
        have hb8 : Below g8 wo V3' := by rw [← hV3]; exact below_drewN HB2.out 1
        have hrbx := hrb.below hb8 hg3
        have q0 := i8_lt x0
        have q1 := i8_lt x1
        have q2 := i8_lt x2
        have q3 := i8_lt x3
        have d0 := hr8.at_ (i := 0) (v := W8 x0) rfl
        have d1 := hr8.at_ (i := 1) (v := W8 x1) rfl
        have d2 := hr8.at_ (i := 2) (v := W8 x2) rfl
        have d3 := hr8.at_ (i := 3) (v := W8 x3) rfl
        have f0 := box_cell hrbx x0
        have f1 := box_cell hrbx x1
        have f2 := box_cell hrbx x2
        have f3 := box_cell hrbx x3
        obtain ⟨y0, hy0⟩ : ∃ y, boxAt boxL x0 = y := ⟨_, rfl⟩
        obtain ⟨y1, hy1⟩ : ∃ y, boxAt boxL x1 = y := ⟨_, rfl⟩
        obtain ⟨y2, hy2⟩ : ∃ y, boxAt boxL x2 = y := ⟨_, rfl⟩
        obtain ⟨y3, hy3⟩ : ∃ y, boxAt boxL x3 = y := ⟨_, rfl⟩
        obtain ⟨ym, hym⟩ : ∃ y, y1 ^^^ m = y := ⟨_, rfl⟩
        have hxm : bits .xor .u8 (i8 y1) (i8 m) = i8 ym := by rw [b8_xor, hym]
        rw [hy0] at f0
        rw [hy1] at f1
        rw [hy2] at f2
        rw [hy3] at f3
        have HY := Lib.hid (And.intro hy0 (And.intro hy1 (And.intro hy2 (And.intro hy3 hym))))
        clear hy0 hy1 hy2 hy3 hym
        have HR8 := Lib.hid hr8
        have HB8 := Lib.hid hb8
        clear hr8 hb8 hrbx hV3
        iterate 19 (refine wpStill_step (fun K hK => ?_); go_simp; refine hK _ ?_; clear hK K)
        refine wpStill_nil ?_
        clear d0 d1 d2 d3 f0 f1 f2 f3 q0 q1 q2 q3
        have hst := HR8.out
        have h41 : ([ym, y2, y3, y0].map W8).length = 4 := rfl
        have hdm := double_any
        go_wp2_with ((with_reducible show wpList _ _ _ (⟨none, _, _, _, _, _⟩ :: _) _ _); refine wlv_store rfl 68 4 Try.arr4 _ _ rfl g8 ([ym, y2, y3, y0].map W8) rfl rfl _ _ hst rfl h41 (ones8 _) ?_; intro V4' r4' b4' z4')
        have HB5 := Lib.hid (b4' _ _ HB8.out (Nat.le_refl _))
        clear b4' z4' hst
        refine (hdm _ _).mono ?_
        rintro e V5 ⟨rfl, rfl⟩
        obtain ⟨wd, hwd⟩ : ∃ l, [ym, y2, y3, y0] = l := ⟨_, rfl⟩
        rw [hwd] at r4' h41
        have hwl : wd.length = 4 := by rw [← hwd]; rfl
        have hwk : ∀ j, j < 4 → wd[j]? = some (subW n W m j) := fun j hj => by
          rw [← hwd]
          unfold subW
          rw [HPL.out, hl4, if_pos hr0]
          have hj2 : j = 0 ∨ j = 1 ∨ j = 2 ∨ j = 3 := by omega
          rcases hj2 with rfl | rfl | rfl | rfl
          · show some ym = some (boxAt boxL (W.getD (l4 + 1) 0) ^^^ m)
            rw [HX.out.2.1, HY.out.2.1, HY.out.2.2.2.2]
          · show some y2 = some (boxAt boxL (W.getD (l4 + 2) 0) ^^^ 0)
            rw [HX.out.2.2.1, HY.out.2.2.1]; simp
          · show some y3 = some (boxAt boxL (W.getD (l4 + 3) 0) ^^^ 0)
            rw [HX.out.2.2.2, HY.out.2.2.2.1]; simp
          · show some y0 = some (boxAt boxL (W.getD (l4 + 0) 0) ^^^ 0)
            rw [Nat.add_zero, HX.out.1, HY.out.1]; simp
        clear hwd hdm
        go_wp2_with (((with_reducible show wpList _ _ _ (⟨some 89, _, _, _, _, _⟩ :: _) _ _); refine wlv_load rfl 68 4 _ Try.underlying68 Try.arr4 _ rfl g8 rfl _ _ r4' h41 ?_))
        have hown5 := own_keep hown (fun q hq => HB5.out.block q (by have e2 : some gw = some q := hq; injection e2 with e2; omega))
        have hrb5 := hrb.below HB5.out hg3
        have hB5 := hBr.trans (HB5.out.mono (by have := hBr.size; have := HG8.out; have := HG.out; omega))
        have HWL := Lib.hid hwl
        have HWK := Lib.hid hwk
        clear hown hrb hBr hwl hwk
        go_loopw [4, 90] (fun v j wr => ∃ t : Nat, t ≤ 4 ∧ j = .int .i64 (t : Nat) ∧ wr.ownsRow gb 5 1 v (L + t) ((W ++ (List.range t).map (fun j => subW n W m j ^^^ W.getD (L - n + j) 0)).map W8) ∧ RowV 47 wr g3 (boxL.map W8) ∧ Below g w wr) (fun _ j _ => 4 - (intOf j).toNat)
        case atStart => exact ⟨0, by decide, rfl, by simpa using hown5, hrb5, hB5⟩
        case round =>
          obtain ⟨t, ht, rfl, hown, hrb, hBr⟩ := hrel
          by_cases ht4 : t = 4
          · subst ht4
            have HOW := Lib.hid hown
            have HRB := Lib.hid hrb
            have HBR := Lib.hid hBr
            clear hown hrb hBr hown5 hrb5 hB5
            go_wp2
            go_roundw
            case rel =>
              have hle := HPL.out
              have hst : expN n (key, 1) (k + 1) = (W ++ (List.range 4).map (fun j => subW n W m j ^^^ W.getD (L - n + j) 0), dblV m) := by
                rw [expN, expS, HWM.out.1, HWM.out.2, hle]
                rw [if_pos hr0]
              exact ⟨k + 1, by omega, by have := HLN.out; go_num, by rw [hst], by rw [hst, show n + 4 * (k + 1) = L + 4 by have := HLN.out; omega]; exact HOW.out, HRB.out, HBR.out⟩
            case measure => simp [intOf]; omega
          · have hti : (t : Int) < 4 := by omega
            have hlp := HPL.out
            have hnL := HLN.out
            obtain ⟨gw2, c2, rfl, hbase2, hsv2⟩ := own_form0 hown (by omega)
            obtain ⟨q, hq⟩ : ∃ q, L - n + t = q := ⟨_, rfl⟩
            have hqL : q < L := by omega
            have iq : (L : Int) - (n : Int) + (t : Int) = (q : Int) := by omega
            obtain ⟨z, hz⟩ : ∃ z, W.getD q 0 = z := ⟨_, rfl⟩
            obtain ⟨x, hx⟩ : ∃ x, subW n W m t = x := ⟨_, rfl⟩
            have hc2 := hsv2.cap
            have hm2 := hsv2.max
            have jq : (q : Int) < ((L + t : Nat) : Int) := by omega
            have czq : wr.cell? ⟨gw2, q, none⟩ = some (W8 z) := by
              obtain ⟨b', o', e', hlt', hcs'⟩ := hsv2.2.2.2 (by intro e; have := congrArg List.length e; rw [List.length_map, List.length_append, List.length_nil] at this; omega)
              injection e' with e'
              injection e' with e1 e2
              subst e1 e2
              have h1 := hcs' q (W8 z) (by rw [List.getElem?_map, List.getElem?_append_left (by omega), get_at (by omega), hz]; rfl)
              rwa [Nat.zero_add] at h1
            have hix := run_index4 wr wd HWL.out t x (by rw [HWK.out t (by omega), hx])
            have hxz : bits .xor .u8 (i8 x) (i8 z) = i8 (x ^^^ z) := b8_xor x z
            obtain ⟨V6, e6, r6, b6, z6⟩ := newV wr 5 [W8 (x ^^^ z)] #[.int .u8 (i8 (x ^^^ z))] rfl
            have hown6 := own_later hown b6
            have hsl6 := r6.sl (by simp)
            have hlist : (W ++ (List.range t).map (fun j => subW n W m j ^^^ W.getD (L - n + j) 0)).map W8 ++ [W8 (x ^^^ z)] = (W ++ (List.range (t + 1)).map (fun j => subW n W m j ^^^ W.getD (L - n + j) 0)).map W8 := by
              rw [← hx, ← hz, ← hq, List.range_succ]
              simp
            have HLI := Lib.hid hlist
            have HO6 := Lib.hid hown6
            have HS6 := Lib.hid hsl6
            have HRB6 := Lib.hid (hrb.later b6)
            have hgw6 : g ≤ wr.heap.size := by have h1 := hBr.size; have h2 := HG.out; omega
            have hB6 := hBr.trans (b6.mono hgw6)
            have HB6 := Lib.hid hB6
            have hgb6 : gb ≤ V6.heap.size := by have h1 := (hown6.lt gw2 rfl).2; omega
            have kL : L + t + 1 ≤ 17592186044416 := by have := HLB.out; omega
            clear hlist hown6 hsl6 r6 b6 hB6 hz hx hq hown hrb hBr hsv2
            go_wp2_with (at_builtin; refine wlv_append Try.elem8 rfl _ _ rfl gb _ (L + t) _ rfl HO6.out (some ⟨wr.heap.size, 0, none⟩) 1 1 [W8 (x ^^^ z)] rfl (by intro h; cases h) _ HS6.out (ones8 [x ^^^ z]) kL hgb6 ?_; intro v7 w7 hown7 hgr7; obtain ⟨A7, c7, rfl, _, _, _⟩ := SlV.of_own hown7; have HO7 := Lib.hid hown7; have HG7 := Lib.hid hgr7; clear hown7 hgr7 e6)
            go_roundw
            case rel =>
              have h1 := HO7.out
              rw [HLI.out] at h1
              exact ⟨t + 1, by omega, by go_num, h1, (HG7.out.block g3 HRB6.out.lt (fun e => by have e2 : some g3 = some gw2 := e; injection e2 with e2; omega)).trans HRB6.out, HB6.out.grown HG7.out (Nat.le_trans hgz3 hgb6) (fun q hq => Nat.le_trans hgz3 (HO6.out.lt q hq).1)⟩
            case measure => simp [intOf]; omega
      by_cases hr16 : L % n = 16 ∧ n = 32
      · exact absurd hr16.2 (by have := HN.out; omega)
      by_cases hr17 : L % n = 16
      · have hrI : (L : Int) % (n : Int) = 16 := by omega
        have hnB : ((n : Int) == 32) = false := by simp; omega
        have hnB2 : ¬ (n : Int) = 32 := by omega
        go_wp2_with (first | ((with_reducible show wpList _ _ _ (⟨some 33, _, _, _, _, _⟩ :: _) _ _); refine wpList_load_mid rfl 68 _ rfl gw l4 rfl ([x0, x1, x2, x3].map W8) _ hrng Try.underlying68 rfl (Try.arr4.trans (by rw [hl4'])) ?_) | ((with_reducible show wpList _ _ _ (⟨none, _, _, _, _, _⟩ :: _) _ _); refine wlv_store rfl 68 4 Try.arr4 _ _ rfl g8 ([x0, x1, x2, x3].map W8) rfl rfl _ _ r1 rfl hl4' (ones8 _) ?_; intro V2 r2 b2 z2; have HB2 := Lib.hid (b2 _ _ b1 (Nat.le_refl _)); have HR2 := Lib.hid r2; clear r2 b2 z2; have hr5 := HR2.out) | ((with_reducible show wpList _ _ _ (⟨some 89, _, _, _, _, _⟩ :: _) _ _); refine wlv_load rfl 68 4 _ Try.underlying68 Try.arr4 _ rfl g8 rfl _ _ hr5 hl4' ?_))
        have HB5 := HB2
        obtain ⟨wd, hwd⟩ : ∃ l, [x0, x1, x2, x3] = l := ⟨_, rfl⟩
        have hwdm : (#[W8 x0, W8 x1, W8 x2, W8 x3] : Array Value) = (wd.map W8).toArray := by rw [← hwd]; rfl
        rw [hwdm]
        have hwl : wd.length = 4 := by rw [← hwd]; rfl
        have hwk : ∀ j, j < 4 → wd[j]? = some (subW n W m j) := fun j hj => by
          rw [← hwd]
          unfold subW
          rw [HPL.out, hl4, if_neg hr0, if_neg (show ¬ (L % n = 16 ∧ n = 32) from fun h => hr16 (by first | exact h | exact ⟨h.1, trivial⟩ | simpa using h))]
          have hj2 : j = 0 ∨ j = 1 ∨ j = 2 ∨ j = 3 := by omega
          rcases hj2 with rfl | rfl | rfl | rfl
          · show some x0 = some (W.getD (l4 + 0) 0)
            rw [Nat.add_zero, HX.out.1]
          · show some x1 = some (W.getD (l4 + 1) 0)
            rw [HX.out.2.1]
          · show some x2 = some (W.getD (l4 + 2) 0)
            rw [HX.out.2.2.1]
          · show some x3 = some (W.getD (l4 + 3) 0)
            rw [HX.out.2.2.2]
        clear hwd
        have hown5 := own_keep hown (fun q hq => HB5.out.block q (by have e2 : some gw = some q := hq; injection e2 with e2; omega))
        have hrb5 := hrb.below HB5.out hg3
        have hB5 := hBr.trans (HB5.out.mono (by have := hBr.size; have := HG8.out; have := HG.out; omega))
        have HWL := Lib.hid hwl
        have HWK := Lib.hid hwk
        clear hown hrb hBr hwl hwk
        go_loopw [4, 90] (fun v j wr => ∃ t : Nat, t ≤ 4 ∧ j = .int .i64 (t : Nat) ∧ wr.ownsRow gb 5 1 v (L + t) ((W ++ (List.range t).map (fun j => subW n W m j ^^^ W.getD (L - n + j) 0)).map W8) ∧ RowV 47 wr g3 (boxL.map W8) ∧ Below g w wr) (fun _ j _ => 4 - (intOf j).toNat)
        case atStart => exact ⟨0, by decide, rfl, by simpa using hown5, hrb5, hB5⟩
        case round =>
          obtain ⟨t, ht, rfl, hown, hrb, hBr⟩ := hrel
          by_cases ht4 : t = 4
          · subst ht4
            have HOW := Lib.hid hown
            have HRB := Lib.hid hrb
            have HBR := Lib.hid hBr
            clear hown hrb hBr hown5 hrb5 hB5
            go_wp2
            go_roundw
            case rel =>
              have hle := HPL.out
              have hst : expN n (key, 1) (k + 1) = (W ++ (List.range 4).map (fun j => subW n W m j ^^^ W.getD (L - n + j) 0), m) := by
                rw [expN, expS, HWM.out.1, HWM.out.2, hle]
                rw [if_neg hr0]
              exact ⟨k + 1, by omega, by have := HLN.out; go_num, by rw [hst], by rw [hst, show n + 4 * (k + 1) = L + 4 by have := HLN.out; omega]; exact HOW.out, HRB.out, HBR.out⟩
            case measure => simp [intOf]; omega
          · have hti : (t : Int) < 4 := by omega
            have hlp := HPL.out
            have hnL := HLN.out
            obtain ⟨gw2, c2, rfl, hbase2, hsv2⟩ := own_form0 hown (by omega)
            obtain ⟨q, hq⟩ : ∃ q, L - n + t = q := ⟨_, rfl⟩
            have hqL : q < L := by omega
            have iq : (L : Int) - (n : Int) + (t : Int) = (q : Int) := by omega
            obtain ⟨z, hz⟩ : ∃ z, W.getD q 0 = z := ⟨_, rfl⟩
            obtain ⟨x, hx⟩ : ∃ x, subW n W m t = x := ⟨_, rfl⟩
            have hc2 := hsv2.cap
            have hm2 := hsv2.max
            have jq : (q : Int) < ((L + t : Nat) : Int) := by omega
            have czq : wr.cell? ⟨gw2, q, none⟩ = some (W8 z) := by
              obtain ⟨b', o', e', hlt', hcs'⟩ := hsv2.2.2.2 (by intro e; have := congrArg List.length e; rw [List.length_map, List.length_append, List.length_nil] at this; omega)
              injection e' with e'
              injection e' with e1 e2
              subst e1 e2
              have h1 := hcs' q (W8 z) (by rw [List.getElem?_map, List.getElem?_append_left (by omega), get_at (by omega), hz]; rfl)
              rwa [Nat.zero_add] at h1
            have hix := run_index4 wr wd HWL.out t x (by rw [HWK.out t (by omega), hx])
            have hxz : bits .xor .u8 (i8 x) (i8 z) = i8 (x ^^^ z) := b8_xor x z
            obtain ⟨V6, e6, r6, b6, z6⟩ := newV wr 5 [W8 (x ^^^ z)] #[.int .u8 (i8 (x ^^^ z))] rfl
            have hown6 := own_later hown b6
            have hsl6 := r6.sl (by simp)
            have hlist : (W ++ (List.range t).map (fun j => subW n W m j ^^^ W.getD (L - n + j) 0)).map W8 ++ [W8 (x ^^^ z)] = (W ++ (List.range (t + 1)).map (fun j => subW n W m j ^^^ W.getD (L - n + j) 0)).map W8 := by
              rw [← hx, ← hz, ← hq, List.range_succ]
              simp
            have HLI := Lib.hid hlist
            have HO6 := Lib.hid hown6
            have HS6 := Lib.hid hsl6
            have HRB6 := Lib.hid (hrb.later b6)
            have hgw6 : g ≤ wr.heap.size := by have h1 := hBr.size; have h2 := HG.out; omega
            have hB6 := hBr.trans (b6.mono hgw6)
            have HB6 := Lib.hid hB6
            have hgb6 : gb ≤ V6.heap.size := by have h1 := (hown6.lt gw2 rfl).2; omega
            have kL : L + t + 1 ≤ 17592186044416 := by have := HLB.out; omega
            clear hlist hown6 hsl6 r6 b6 hB6 hz hx hq hown hrb hBr hsv2
            go_wp2_with (at_builtin; refine wlv_append Try.elem8 rfl _ _ rfl gb _ (L + t) _ rfl HO6.out (some ⟨wr.heap.size, 0, none⟩) 1 1 [W8 (x ^^^ z)] rfl (by intro h; cases h) _ HS6.out (ones8 [x ^^^ z]) kL hgb6 ?_; intro v7 w7 hown7 hgr7; obtain ⟨A7, c7, rfl, _, _, _⟩ := SlV.of_own hown7; have HO7 := Lib.hid hown7; have HG7 := Lib.hid hgr7; clear hown7 hgr7 e6)
            go_roundw
            case rel =>
              have h1 := HO7.out
              rw [HLI.out] at h1
              exact ⟨t + 1, by omega, by go_num, h1, (HG7.out.block g3 HRB6.out.lt (fun e => by have e2 : some g3 = some gw2 := e; injection e2 with e2; omega)).trans HRB6.out, HB6.out.grown HG7.out (Nat.le_trans hgz3 hgb6) (fun q hq => Nat.le_trans hgz3 (HO6.out.lt q hq).1)⟩
            case measure => simp [intOf]; omega
      · have hrI : (L : Int) % (n : Int) = ((L % n : Nat) : Int) := by omega
        obtain ⟨r, hr⟩ : ∃ r, L % n = r := ⟨_, rfl⟩
        rw [hr] at hrI
        have hr1 : ((r : Int) == 0) = false := by simp; omega
        have hr2 : ((r : Int) == 16) = false := by simp; omega
        have hr3 : ¬ (r : Int) = 0 := by omega
        have hr4 : ¬ (r : Int) = 16 := by omega
        go_wp2_with (first | ((with_reducible show wpList _ _ _ (⟨some 33, _, _, _, _, _⟩ :: _) _ _); refine wpList_load_mid rfl 68 _ rfl gw l4 rfl ([x0, x1, x2, x3].map W8) _ hrng Try.underlying68 rfl (Try.arr4.trans (by rw [hl4'])) ?_) | ((with_reducible show wpList _ _ _ (⟨none, _, _, _, _, _⟩ :: _) _ _); refine wlv_store rfl 68 4 Try.arr4 _ _ rfl g8 ([x0, x1, x2, x3].map W8) rfl rfl _ _ r1 rfl hl4' (ones8 _) ?_; intro V2 r2 b2 z2; have HB2 := Lib.hid (b2 _ _ b1 (Nat.le_refl _)); have HR2 := Lib.hid r2; clear r2 b2 z2; have hr5 := HR2.out) | ((with_reducible show wpList _ _ _ (⟨some 89, _, _, _, _, _⟩ :: _) _ _); refine wlv_load rfl 68 4 _ Try.underlying68 Try.arr4 _ rfl g8 rfl _ _ hr5 hl4' ?_))
        have HB5 := HB2
        obtain ⟨wd, hwd⟩ : ∃ l, [x0, x1, x2, x3] = l := ⟨_, rfl⟩
        have hwdm : (#[W8 x0, W8 x1, W8 x2, W8 x3] : Array Value) = (wd.map W8).toArray := by rw [← hwd]; rfl
        rw [hwdm]
        have hwl : wd.length = 4 := by rw [← hwd]; rfl
        have hwk : ∀ j, j < 4 → wd[j]? = some (subW n W m j) := fun j hj => by
          rw [← hwd]
          unfold subW
          rw [HPL.out, hl4, if_neg hr0, if_neg (show ¬ (L % n = 16 ∧ n = 32) from fun h => hr16 (by first | exact h | exact ⟨h.1, trivial⟩ | simpa using h))]
          have hj2 : j = 0 ∨ j = 1 ∨ j = 2 ∨ j = 3 := by omega
          rcases hj2 with rfl | rfl | rfl | rfl
          · show some x0 = some (W.getD (l4 + 0) 0)
            rw [Nat.add_zero, HX.out.1]
          · show some x1 = some (W.getD (l4 + 1) 0)
            rw [HX.out.2.1]
          · show some x2 = some (W.getD (l4 + 2) 0)
            rw [HX.out.2.2.1]
          · show some x3 = some (W.getD (l4 + 3) 0)
            rw [HX.out.2.2.2]
        clear hwd
        have hown5 := own_keep hown (fun q hq => HB5.out.block q (by have e2 : some gw = some q := hq; injection e2 with e2; omega))
        have hrb5 := hrb.below HB5.out hg3
        have hB5 := hBr.trans (HB5.out.mono (by have := hBr.size; have := HG8.out; have := HG.out; omega))
        have HWL := Lib.hid hwl
        have HWK := Lib.hid hwk
        clear hown hrb hBr hwl hwk
        go_loopw [4, 90] (fun v j wr => ∃ t : Nat, t ≤ 4 ∧ j = .int .i64 (t : Nat) ∧ wr.ownsRow gb 5 1 v (L + t) ((W ++ (List.range t).map (fun j => subW n W m j ^^^ W.getD (L - n + j) 0)).map W8) ∧ RowV 47 wr g3 (boxL.map W8) ∧ Below g w wr) (fun _ j _ => 4 - (intOf j).toNat)
        case atStart => exact ⟨0, by decide, rfl, by simpa using hown5, hrb5, hB5⟩
        case round =>
          obtain ⟨t, ht, rfl, hown, hrb, hBr⟩ := hrel
          by_cases ht4 : t = 4
          · subst ht4
            have HOW := Lib.hid hown
            have HRB := Lib.hid hrb
            have HBR := Lib.hid hBr
            clear hown hrb hBr hown5 hrb5 hB5
            go_wp2
            go_roundw
            case rel =>
              have hle := HPL.out
              have hst : expN n (key, 1) (k + 1) = (W ++ (List.range 4).map (fun j => subW n W m j ^^^ W.getD (L - n + j) 0), m) := by
                rw [expN, expS, HWM.out.1, HWM.out.2, hle]
                rw [if_neg hr0]
              exact ⟨k + 1, by omega, by have := HLN.out; go_num, by rw [hst], by rw [hst, show n + 4 * (k + 1) = L + 4 by have := HLN.out; omega]; exact HOW.out, HRB.out, HBR.out⟩
            case measure => simp [intOf]; omega
          · have hti : (t : Int) < 4 := by omega
            have hlp := HPL.out
            have hnL := HLN.out
            obtain ⟨gw2, c2, rfl, hbase2, hsv2⟩ := own_form0 hown (by omega)
            obtain ⟨q, hq⟩ : ∃ q, L - n + t = q := ⟨_, rfl⟩
            have hqL : q < L := by omega
            have iq : (L : Int) - (n : Int) + (t : Int) = (q : Int) := by omega
            obtain ⟨z, hz⟩ : ∃ z, W.getD q 0 = z := ⟨_, rfl⟩
            obtain ⟨x, hx⟩ : ∃ x, subW n W m t = x := ⟨_, rfl⟩
            have hc2 := hsv2.cap
            have hm2 := hsv2.max
            have jq : (q : Int) < ((L + t : Nat) : Int) := by omega
            have czq : wr.cell? ⟨gw2, q, none⟩ = some (W8 z) := by
              obtain ⟨b', o', e', hlt', hcs'⟩ := hsv2.2.2.2 (by intro e; have := congrArg List.length e; rw [List.length_map, List.length_append, List.length_nil] at this; omega)
              injection e' with e'
              injection e' with e1 e2
              subst e1 e2
              have h1 := hcs' q (W8 z) (by rw [List.getElem?_map, List.getElem?_append_left (by omega), get_at (by omega), hz]; rfl)
              rwa [Nat.zero_add] at h1
            have hix := run_index4 wr wd HWL.out t x (by rw [HWK.out t (by omega), hx])
            have hxz : bits .xor .u8 (i8 x) (i8 z) = i8 (x ^^^ z) := b8_xor x z
            obtain ⟨V6, e6, r6, b6, z6⟩ := newV wr 5 [W8 (x ^^^ z)] #[.int .u8 (i8 (x ^^^ z))] rfl
            have hown6 := own_later hown b6
            have hsl6 := r6.sl (by simp)
            have hlist : (W ++ (List.range t).map (fun j => subW n W m j ^^^ W.getD (L - n + j) 0)).map W8 ++ [W8 (x ^^^ z)] = (W ++ (List.range (t + 1)).map (fun j => subW n W m j ^^^ W.getD (L - n + j) 0)).map W8 := by
              rw [← hx, ← hz, ← hq, List.range_succ]
              simp
            have HLI := Lib.hid hlist
            have HO6 := Lib.hid hown6
            have HS6 := Lib.hid hsl6
            have HRB6 := Lib.hid (hrb.later b6)
            have hgw6 : g ≤ wr.heap.size := by have h1 := hBr.size; have h2 := HG.out; omega
            have hB6 := hBr.trans (b6.mono hgw6)
            have HB6 := Lib.hid hB6
            have hgb6 : gb ≤ V6.heap.size := by have h1 := (hown6.lt gw2 rfl).2; omega
            have kL : L + t + 1 ≤ 17592186044416 := by have := HLB.out; omega
            clear hlist hown6 hsl6 r6 b6 hB6 hz hx hq hown hrb hBr hsv2
            go_wp2_with (at_builtin; refine wlv_append Try.elem8 rfl _ _ rfl gb _ (L + t) _ rfl HO6.out (some ⟨wr.heap.size, 0, none⟩) 1 1 [W8 (x ^^^ z)] rfl (by intro h; cases h) _ HS6.out (ones8 [x ^^^ z]) kL hgb6 ?_; intro v7 w7 hown7 hgr7; obtain ⟨A7, c7, rfl, _, _, _⟩ := SlV.of_own hown7; have HO7 := Lib.hid hown7; have HG7 := Lib.hid hgr7; clear hown7 hgr7 e6)
            go_roundw
            case rel =>
              have h1 := HO7.out
              rw [HLI.out] at h1
              exact ⟨t + 1, by omega, by go_num, h1, (HG7.out.block g3 HRB6.out.lt (fun e => by have e2 : some g3 = some gw2 := e; injection e2 with e2; omega)).trans HRB6.out, HB6.out.grown HG7.out (Nat.le_trans hgz3 hgb6) (fun q hq => Nat.le_trans hgz3 (HO6.out.lt q hq).1)⟩
            case measure => simp [intOf]; omega
end Go.Proofs.Ytabhdkjepbkooaa
