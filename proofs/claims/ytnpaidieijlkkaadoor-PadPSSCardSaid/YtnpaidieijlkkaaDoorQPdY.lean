/- baileyref8: EncPSS. -/
import Derived.Test.YtnpaidieijlkkaaDoorQPdX
set_option linter.unusedVariables false
set_option linter.unusedSimpArgs false
namespace Go.Proofs.YtnpaidieijlkkaaDoor
open Go.RowKit Go.Shelf

theorem b8_andNot (x y : BitVec 8) : bits .andNot .u8 (i8 x) (i8 y) = i8 (x &&& ~~~y) := by
  unfold i8
  rw [u8_andNot_nat _ _ x.isLt y.isLt, BitVec.toNat_and, BitVec.toNat_not]
theorem headAnd_zero (l : List (BitVec 8)) : headAnd 0 l = l := by
  cases l with
  | nil => rfl
  | cons x t =>
    show (x &&& ((0xff : BitVec 8) >>> 0)) :: t = x :: t
    rw [show ((0xff : BitVec 8) >>> 0) = BitVec.allOnes 8 from rfl, BitVec.and_allOnes]
theorem headAnd_step (t : Nat) (ht : t ≤ 6) (x : BitVec 8) : (x &&& ((0xff : BitVec 8) >>> t)) &&& ~~~((0x80 : BitVec 8) >>> t) = x &&& ((0xff : BitVec 8) >>> (t + 1)) := by
  rw [BitVec.and_assoc]
  congr 1
  rcases (by omega : t = 0 ∨ t = 1 ∨ t = 2 ∨ t = 3 ∨ t = 4 ∨ t = 5 ∨ t = 6) with rfl | rfl | rfl | rfl | rfl | rfl | rfl <;> rfl
theorem psh128 (t : Nat) (h : t ≤ 6) : (128 : Int) / 2 ^ t = i8 ((0x80 : BitVec 8) >>> t) := by
  rcases (by omega : t = 0 ∨ t = 1 ∨ t = 2 ∨ t = 3 ∨ t = 4 ∨ t = 5 ∨ t = 6) with rfl | rfl | rfl | rfl | rfl | rfl | rfl <;> rfl
set_option maxRecDepth 100000 in
theorem rencpss_no (w : World) (k bits : Int) (A : Option Addr) (n c : Nat) (A2 : Option Addr) (n2 c2 : Nat) (h : psR k bits n n2 ≠ 0) :
    Calls Tryd.prog 32 #[.int .i64 k, .int .i64 bits, .slice A n c, .slice A2 n2 c2] w fun e w' => e = .returned (.tuple #[.slice none 0 0, .int .i64 (psR k bits n n2)]) ∧ w = w' := by
  have hp := rpss_any w k bits A n c n2 (by omega)
  obtain ⟨R, hR⟩ : ∃ r, psR k bits n n2 = r := ⟨_, rfl⟩
  rw [hR] at hp h ⊢
  have HP := Lib.hid hp
  have kb : (R != 0) = true := by simpa using h
  clear hp hR
  go_enter Tryd.func32, Tryd.ntmps32
  go_wp2_with fail
  refine HP.out.mono ?_
  rintro e w' ⟨rfl, rfl⟩
  go_wp2
  go_ret2
  exact ⟨rfl, rfl⟩
set_option maxRecDepth 100000 in
set_option maxHeartbeats 8000000 in
theorem rencpss_ok (w : World) (k : Int) (bits N : Nat) (hN : (bits + 7) / 8 = N) (B : Nat) (A1 : Option Addr) (n1 c1 : Nat) (hash : List (BitVec 8)) (h1 : SlV w B A1 n1 c1 (hash.map W8)) (z1 : A1 = none → c1 = 0) (h : psB k (bits : Int) n1 = true)
    (A2 : Option Addr) (n2 c2 : Nat) (salt : List (BitVec 8)) (h2 : SlV w B A2 n2 c2 (salt.map W8)) (z2 : A2 = none → c2 = 0) (hB : B ≤ w.heap.size) (Z : Nat) (hZ : n1 + n2 + 2 + Z = N) :
    Calls Tryd.prog 32 #[.int .i64 k, .int .i64 (bits : Int), .slice A1 n1 c1, .slice A2 n2 c2] w fun e w' => ∃ v, e = .returned (.tuple #[v, .int .i64 0]) ∧ FreshV w' w.heap.size v (pssL k Z (8 * N - bits) hash salt) ∧ Below w.heap.size w w' := by
  obtain ⟨hok, hb1, hb2⟩ := of_decide_eq_true h
  obtain ⟨hk, hn⟩ := okB_kind hok
  have hle := szN_le hk
  have hp := rpss_any w k (bits : Int) A1 n1 c1 n2 (by omega)
  have hpr : psR k (bits : Int) n1 n2 = 0 := by
    rw [psR, if_neg (by rw [h]; decide), szN_eq hk, if_neg (by omega)]
  rw [hpr] at hp
  have hd : ((bits : Int) + 7) / 8 = (N : Int) := by omega
  have k1 : (n1 : Int) ≤ 64 := by omega
  have k2 : (n2 : Int) ≤ 8192 := by omega
  have k3 : (N : Int) ≤ 8192 := by omega
  have k4 : (N : Int) - n2 - n1 - 2 = (Z : Int) := by omega
  have k5 : (Z : Int) ≤ 8192 := by omega
  have hl1 : hash.length = n1 := by simpa using h1.len.symm
  have hl2 : salt.length = n2 := by simpa using h2.len.symm
  obtain ⟨s, hs⟩ : ∃ s, 8 * N - bits = s := ⟨_, rfl⟩
  have k6 : 8 * (N : Int) = (bits : Int) + (s : Int) := by omega
  have k7 : (s : Int) ≤ 7 := by omega
  rw [hs]
  have HP := Lib.hid hp
  have P1 := Lib.hid ((Pc.of_sl h1 z1).more hB)
  have P2 := Lib.hid ((Pc.of_sl h2 z2).more hB)
  have HL := Lib.hid (⟨hl1, hl2⟩ : hash.length = n1 ∧ salt.length = n2)
  have HN := Lib.hid (⟨hk, hn, hZ, hle.1, hle.2.2, by omega⟩ : KindOk k ∧ n1 = szN k ∧ n1 + n2 + 2 + Z = N ∧ 20 ≤ szN k ∧ szN k ≤ 64 ∧ N ≤ 8192)
  have hmx : Tryd.prog.follows .mixedOrders = true := by kernel_rfl
  have K6 := Lib.hid k6
  clear hp hpr h hok hk hn hle hN hZ hs h1 h2 z1 z2 hB hl1 hl2 k6
  go_enter Tryd.func32, Tryd.ntmps32
  go_wp2_with fail
  refine HP.out.mono ?_
  rintro e w' ⟨rfl, rfl⟩
  clear HP
  go_wp2_with (at_make; refine wlv_make Tryd.elem8 rfl _ rfl _ 8 rfl rfl (by omega) ?_; intro w1 hr1 hb1 hz1; clear hz1)
  have hz8 : FreshV w1 w.heap.size (.slice (some ⟨w.heap.size, 0, none⟩) 8 8) (List.replicate 8 0) := FreshV.row_ (by rw [List.map_replicate]; exact hr1) (Nat.le_refl _) (by simp) (by decide)
  have hj := joinA w1 [.slice (some ⟨w.heap.size, 0, none⟩) 8 8, .slice A1 n1 c1, .slice A2 n2 c2] #[.slice (some ⟨w.heap.size, 0, none⟩) 8 8, .slice A1 n1 c1, .slice A2 n2 c2] rfl [List.replicate 8 0, hash, salt] ⟨hz8.pc, P1.out.up hb1, P2.out.up hb1, trivial⟩ 3 rfl (by decide) (by have := HL.out; have := HN.out; simp; omega)
  rw [show ([List.replicate 8 0, hash, salt] : List (List (BitVec 8))).flatten = List.replicate 8 0 ++ (hash ++ salt) by simp] at hj
  have HJ := Lib.hid hj
  have HB1 := Lib.hid hb1
  clear hj hr1 hb1 hz8
  go_wp2_with fail
  refine HJ.out.mono ?_
  rintro e w2 ⟨v2, rfl, hf2, hb2⟩
  obtain ⟨Aj, nj, cj, rfl⟩ := hf2.form
  have hnj : nj ≤ 10000 := by rw [hf2.len_]; have := HL.out; have := HN.out; simp; omega
  have hb02 : Below w.heap.size w w2 := HB1.out.trans (hb2.mono HB1.out.size)
  have hof := rofK_any w2 k _ Aj nj cj _ hf2.pc.sl.1 hf2.pc.sl.2 (Nat.le_refl _) (by omega)
  obtain ⟨H, hH⟩ : ∃ l, sumK k (List.replicate 8 0 ++ (hash ++ salt)) = l := ⟨_, rfl⟩
  rw [hH] at hof
  have HOF := Lib.hid hof
  have HH := Lib.hid hH
  have HB2 := Lib.hid hb02
  clear hof hf2 hb2 hb02 hH HJ HB1
  go_wp2_with fail
  refine HOF.out.mono ?_
  rintro e w3 ⟨v3, rfl, hf3, hb3⟩
  obtain ⟨Ah, nh, ch, rfl⟩ := hf3.form
  have hnh : nh = n1 := by rw [hf3.len_, ← HH.out, sumK_len HN.out.1, HN.out.2.1]
  subst hnh
  have hb03 : Below w.heap.size w w3 := HB2.out.trans (hb3.mono HB2.out.size)
  have HF3 := Lib.hid hf3
  have HB3 := Lib.hid hb03
  have HG3 := Lib.hid (Nat.le_refl w3.heap.size)
  have hnil : w3.ownsRow w3.heap.size 5 1 (.slice none 0 0) 0 (([] : List (BitVec 8)).map W8) := World.ownsRow_nil _ _ _ _
  have HNIL := Lib.hid hnil
  clear hf3 hb3 hb03 hnil HOF HB2
  obtain ⟨G, hG⟩ : ∃ G, w3.heap.size = G := ⟨_, rfl⟩
  rw [hG] at HNIL
  have HG := Lib.hid hG
  clear hG
  go_wp2
  go_loopw [13] (fun v wr => ∃ (j : Nat) (Ab : Option Addr) (cb : Nat), j ≤ Z ∧ v = .slice Ab j cb ∧ Hid (wr.ownsRow G 5 1 (.slice Ab j cb) j ((List.replicate j 0 : List (BitVec 8)).map W8)) ∧ Hid (Below G w3 wr)) (fun v _ => Z + 1 - lenV v)
  case atStart => exact ⟨0, none, 0, by omega, rfl, by simpa using HNIL, Lib.hid (Below.refl _ _)⟩
  case round =>
    obtain ⟨j, Ab, cb, hj, rfl, HO, HB⟩ := hrel
    by_cases hjr : j = Z
    · subst hjr
      have kj : ¬ (j : Int) < j := by omega
      obtain ⟨L, hLe⟩ : ∃ L, j + 1 + n2 = L := ⟨_, rfl⟩
      have kL : (L : Int) ≤ 8192 := by have := HN.out; omega
      have kL1 : (1 : Int) ≤ L := by omega
      obtain ⟨W1, e1, so1, b1⟩ := new1 wr 1 #[.int .u8 1] rfl
      have ho1 := own_later_ HO.out b1
      have hGw : G ≤ wr.heap.size := by have := HB.out.size; have := HG.out; omega
      have hb1' := HB.out.trans (b1.mono hGw)
      have hz1 : G ≤ W1.heap.size := Nat.le_trans hGw b1.size
      have hsz : j + 1 + n2 ≤ 17592186044416 := by omega
      have HLE := Lib.hid hLe
      clear b1 hLe hGw
      go_wp2_with (first | (at_builtin; refine wlv_append Tryd.elem8 rfl _ _ rfl G _ j ((List.replicate j 0 : List (BitVec 8)).map W8) rfl ho1 (some ⟨wr.heap.size, 0, none⟩) 1 1 _ rfl (fun x => by cases x) _ so1 (ones8 [1]) (by omega) hz1 ?_; intro v4 w4 hown4 hgr4; have hb4 := hb1'.grown hgr4 hz1 (fun q hq => (ho1.lt q hq).1); rw [← List.map_append] at hown4; obtain ⟨A4, c4, rfl⟩ := own_slice hown4; have hz4 : G ≤ w4.heap.size := (by have := hb4.size; have := HG.out; omega); have p4 := (P2.out.up HB3.out).later (w' := w4) (by rw [HG.out]; exact hb4); have so4 := p4.sl.1; have zo4 := p4.sl.2; clear e1 ho1 so1 hb1' hgr4 p4) | (at_builtin; refine wlv_append Tryd.elem8 rfl _ _ rfl G _ (j + 1) ((List.replicate j 0 ++ [1] : List (BitVec 8)).map W8) rfl hown4 A2 n2 c2 _ rfl zo4 _ so4 (ones8 salt) hsz hz4 ?_; intro v5 w5 hown5 hgr5; have hb5 := hb4.grown hgr5 hz4 (fun q hq => (hown4.lt q hq).1); rw [← List.map_append, HLE.out] at hown5; obtain ⟨A5, c5, rfl⟩ := own_slice hown5; have hb35 : Below w3.heap.size w3 w5 := (by rw [HG.out]; exact hb5); have f5 := HF3.out.up hb35; have hmg := rmgf_any w5 k HN.out.1 _ Ah nh ch H f5.pc.sl.1 f5.pc.sl.2 (Nat.le_refl _) (by omega) L (by omega) (by omega); have HMG := Lib.hid hmg; clear hown4 so4 zo4 hb4 hgr5 hmg hz4))
      refine HMG.out.mono ?_
      rintro e w6 ⟨v6, rfl, hf6, hb6⟩
      obtain ⟨A6, n6, c6, rfl⟩ := hf6.form
      obtain rfl := hf6.lit L (mgfL_length HN.out.1 _ _)
      obtain ⟨blk, hbk⟩ : ∃ l, List.replicate j 0 ++ [1] ++ salt = l := ⟨_, rfl⟩
      rw [hbk] at hown5
      have hblk : pssBlk j salt = blk := by rw [pssBlk, ← hbk]; simp
      have hf5 : FreshV w5 G (.slice A5 n6 c5) blk := FreshV.of_own hown5
      have hbl : blk.length = n6 := hf5.len_.symm
      have hx := rxor_any w6 w6.heap.size (Nat.le_refl _) A5 n6 c5 blk (hf5.up hb6).pc.sl.1 A6 n6 c6 _ hf6.pc.sl.1 (Nat.le_refl _) (by omega)
      have hmk : xorL blk (mgfL k H n6) = maskK k blk H := by rw [maskK, hbl]
      rw [hmk] at hx
      obtain ⟨hid, hhd⟩ : ∃ l, maskK k blk H = l := ⟨_, rfl⟩
      rw [hhd] at hx
      have hhl : hid.length = n6 := by rw [← hhd, maskK_length HN.out.1, hbl]
      have hb36 : Below w3.heap.size w3 w6 := hb35.trans (hb6.mono hb35.size)
      have HX := Lib.hid hx
      have HF6 := Lib.hid (f5.up hb6)
      have HB6 := Lib.hid (HB3.out.trans (hb36.mono HB3.out.size))
      have HK := Lib.hid (⟨hblk, hhd, hhl⟩ : pssBlk j salt = blk ∧ maskK k blk H = hid ∧ hid.length = n6)
      clear hx hmk hhd hhl hblk hbl hf5 hbk hown5 hf6 hb6 hb5 hb35 hb36 f5 HMG hz1
      go_wp2_with fail
      refine HX.out.mono ?_
      rintro e w7 ⟨rfl, hr7, hb7⟩
      obtain ⟨gx, hgx⟩ : ∃ g, w6.heap.size = g := ⟨_, rfl⟩
      rw [hgx] at hr7 hb7 ⊢
      obtain ⟨x, tl, hxt⟩ : ∃ x tl, hid = x :: tl := by
        cases hid with
        | nil => exfalso; have := HK.out.2.2; simp at this; omega
        | cons x t => exact ⟨x, t, rfl⟩
      have HR7 := Lib.hid (show RowV 5 w7 gx ((headAnd 0 hid).map W8) by rw [headAnd_zero]; exact hr7)
      have HB7 := Lib.hid hb7
      have HGX := Lib.hid hgx
      have HXT := Lib.hid hxt
      clear hr7 hb7 hgx hxt HX
      go_wp2
      go_loopw [15] (fun i wr => ∃ t : Nat, t ≤ s ∧ i = .int .i64 ((bits : Int) + (t : Int)) ∧ Hid (RowV 5 wr gx ((headAnd t hid).map W8)) ∧ Hid (Below gx w6 wr)) (fun i _ => bits + s - (intOf i).toNat)
      case atStart => exact ⟨0, by omega, by simp, HR7, HB7⟩
      case round =>
        obtain ⟨t, ht, rfl, HR, HBt⟩ := hrel
        have kw8 : IntKind.i64.wrap (8 * (N : Int)) = 8 * (N : Int) := by rw [IntKind.wrap_i64]; omega
        by_cases hts : t = s
        · subst hts
          have kt : ¬ (bits : Int) + t < 8 * (N : Int) := by have := K6.out; omega
          have hf7 : FreshV wr gx (.slice (some ⟨gx, 0, none⟩) n6 n6) (headAnd t hid) := FreshV.row2 HR.out (by rw [headAnd_length, HK.out.2.2]) (by omega) _ (Nat.le_refl _)
          have hb6r : Below w6.heap.size w6 wr := by rw [HGX.out]; exact HBt.out
          obtain ⟨hf8, hb8⟩ := freshA wr [0xbc] #[.int .u8 188] rfl 1 rfl (by decide)
          obtain ⟨W8', e8⟩ : ∃ W, wr.alloc (.cells #[.int .u8 188] 5) = W := ⟨_, rfl⟩
          rw [e8] at hf8 hb8
          have hb08 := (HB6.out.trans (hb6r.mono HB6.out.size)).trans (hb8.mono (Nat.le_trans HB6.out.size hb6r.size))
          have hfH := (HF6.out.up hb6r).up hb8
          have hj := joinA W8' [.slice (some ⟨gx, 0, none⟩) n6 n6, .slice Ah nh ch, .slice (some ⟨wr.heap.size, 0, none⟩) 1 1] #[.slice (some ⟨gx, 0, none⟩) n6 n6, .slice Ah nh ch, .slice (some ⟨wr.heap.size, 0, none⟩) 1 1] rfl [headAnd t hid, H, [0xbc]] ⟨(hf7.up hb8).pc, hfH.pc, hf8.pc, trivial⟩ 3 rfl (by decide) (by have h1 := hfH.len_; have h2 := hf7.len_; simp; omega)
          have hfin : [headAnd t hid, H, [0xbc]].flatten = pssL k j t hash salt := by rw [pssL, pssH, HH.out, HK.out.1, HK.out.2.1]; simp
          rw [hfin] at hj
          have HJ := Lib.hid hj
          have HB8 := Lib.hid hb08
          clear hj hfin hb08 hfH hf7 hf8 hb8 hb6r HR HBt
          go_wp2_with fail
          refine HJ.out.mono ?_
          rintro e w9 ⟨v9, rfl, hf9, hb9⟩
          have HF9 := Lib.hid (hf9.mono_ HB8.out.size)
          have HB9 := Lib.hid (HB8.out.trans (hb9.mono HB8.out.size))
          clear hf9 hb9
          go_wp2
          go_ret2
          exact ⟨_, rfl, HF9.out, HB9.out⟩
        · have kt : (bits : Int) + t < 8 * (N : Int) := by have := K6.out; omega
          obtain ⟨xt, hxt⟩ : ∃ y, x &&& ((0xff : BitVec 8) >>> t) = y := ⟨_, rfl⟩
          obtain ⟨x2, hx2⟩ : ∃ y, xt &&& ~~~((0x80 : BitVec 8) >>> t) = y := ⟨_, rfl⟩
          have hrow := HR.out
          rw [HXT.out] at hrow
          have hc0 : wr.cell? ⟨gx, 0, none⟩ = some (W8 xt) := by rw [← hxt]; exact hrow.at_ rfl
          have hf0 := hrow.frozen 0
          have hr2 := hrow.set 0 (W8 x2)
          have hset : ((headAnd t (x :: tl)).map W8).set 0 (W8 x2) = (headAnd (t + 1) hid).map W8 := by
            rw [HXT.out, ← hx2, ← hxt, headAnd_step t (by omega)]
            rfl
          rw [hset] at hr2
          have hB2 := below_setV HBt.out (Nat.le_refl gx) 0 (W8 x2)
          have hsh := psh128 t (by omega)
          have hand := b8_andNot xt ((0x80 : BitVec 8) >>> t)
          rw [hx2] at hand
          have m2 : IntKind.i64.wrap ((bits : Int) + (t : Int) - (bits : Int)) = (t : Int) := by rw [IntKind.wrap_i64]; omega
          have kn0 : ¬ n6 = 0 := by omega
          have kn1 : (0 : Int) < n6 := by omega
          have HR2 := Lib.hid hr2
          have HB2' := Lib.hid hB2
          clear hr2 hB2 hset hrow hxt hx2
          go_wp2
          refine (wpIn_wide (n := 9)).1 (wpIn_region_pure rfl hmx [(69, .slice (some ⟨gx, 0, none⟩) n6 n6), (70, .slice (some ⟨gx, 0, none⟩) n6 n6), (71, .pointer (some ⟨gx, 0, none⟩)), (72, W8 xt), (73, .int .i64 ((bits : Int) + (t : Int))), (74, .int .i64 (bits : Int)), (75, .int .i64 (t : Int)), (76, W8 ((0x80 : BitVec 8) >>> t)), (77, W8 x2), (78, .pointer (some ⟨gx, 0, none⟩))] (by kernel_rfl) (by kernel_rfl) (by kernel_rfl) (by kernel_rfl) (by first | rfl | simp) 10 (wr.setCell ⟨gx, 0, none⟩ (W8 x2)) rfl (by kernel_rfl) ?ops7 ?last7 ?end7)
          case ops7 =>
            intro i o hi ho
            have hi2 : i = 0 ∨ i = 1 ∨ i = 2 ∨ i = 3 ∨ i = 4 ∨ i = 5 ∨ i = 6 ∨ i = 7 ∨ i = 8 ∨ i = 9 := by omega
            rcases hi2 with rfl | rfl | rfl | rfl | rfl | rfl | rfl | rfl | rfl | rfl
            all_goals
              have ho' := ho
              simp only [List.getElem?_toArray, List.getElem?_cons_zero, List.getElem?_cons_succ, Option.some.injEq] at ho'
              subst ho'
              refine ⟨(by intro c h; cases h), fun q => ⟨fun _ _ => trivial, ?_⟩⟩
            all_goals
              first
              | (refine .inl ?_; simp [execOp, evP, valP, Act.eval, List.lookup_cons]; done)
              | (refine .inl ?_; simp [execOp, evP, valP, Act.eval, List.lookup_cons, go_sem, hc0, kn0, kn1, m2]; done)
              | (refine .inl ?_; simp [execOp, evP, valP, Act.eval, List.lookup_cons, go_sem]; exact hsh)
              | (refine .inl ?_; simp [execOp, evP, valP, Act.eval, List.lookup_cons, go_sem]; exact hand)
          case last7 =>
            intro o ho
            have ho' := ho
            simp only [List.getElem?_toArray, List.getElem?_cons_zero, List.getElem?_cons_succ, Option.some.injEq] at ho'
            subst ho'
            refine ⟨(by intro c h; cases h), fun q => ⟨fun _ _ => trivial, .inl ⟨?_, rfl⟩⟩⟩
            simp [execOp, evP, valP, Act.eval, List.lookup_cons, go_sem, hc0, hf0]
            try rfl
          case end7 =>
            intro q
            simp [wrote, valP, Act.put, List.lookup_cons]
            obtain ⟨W7, e7⟩ : ∃ W, (wr.setCell ⟨gx, 0, none⟩ (W8 x2)).drewN q = W := ⟨_, rfl⟩
            have HR7' : Hid (RowV 5 W7 gx ((headAnd (t + 1) hid).map W8)) := Lib.hid (by rw [← e7]; exact HR2.out)
            have HB7' : Hid (Below gx w6 W7) := Lib.hid (by rw [← e7]; exact below_drewN HB2'.out q)
            rw [e7]
            clear e7 HR2 HB2'
            go_wp2
            go_roundw
            case rel => exact ⟨t + 1, by omega, by first | go_num | (congr 1; omega), HR7', HB7'⟩
            case measure => simp [intOf]; omega
    · have kj : (j : Int) < Z := by omega
      obtain ⟨W1, e1, so1, b1⟩ := new1 wr 0 #[.int .u8 0] rfl
      have ho1 := own_later_ HO.out b1
      have hGw : G ≤ wr.heap.size := by have := HB.out.size; have := HG.out; omega
      have hb1' := HB.out.trans (b1.mono hGw)
      have hz1 : G ≤ W1.heap.size := Nat.le_trans hGw b1.size
      have hsz : j + 1 ≤ 17592186044416 := by omega
      clear b1
      go_wp2_with (at_builtin; refine wlv_append Tryd.elem8 rfl _ _ rfl G _ j ((List.replicate j 0 : List (BitVec 8)).map W8) rfl ho1 (some ⟨wr.heap.size, 0, none⟩) 1 1 _ rfl (fun x => by cases x) _ so1 (ones8 [0]) hsz hz1 ?_; intro v2 w2' hown2 hgr2; have hb2 := hb1'.grown hgr2 hz1 (fun q hq => (ho1.lt q hq).1); rw [← List.map_append, ← List.replicate_succ'] at hown2; obtain ⟨A2', c2', rfl⟩ := own_slice hown2; clear e1 ho1 so1 hb1' hgr2)
      go_roundw
      case rel => exact ⟨j + 1, A2', c2', by omega, rfl, Lib.hid hown2, Lib.hid hb2⟩
      case measure => simp [lenV]; omega
end Go.Proofs.YtnpaidieijlkkaaDoor
