/- baileyref8: EncOAEP. -/
import Derived.Test.YtnpaidieijlkkaaDoorQPdT
import Derived.Test.YtnpaidieijlkkaaDoorQSlo
import Derived.Test.YtnpaidieijlkkaaDoorPileJ10
set_option linter.unusedVariables false
set_option linter.unusedSimpArgs false
namespace Go.Proofs.YtnpaidieijlkkaaDoor
open Go.RowKit Go.Shelf

theorem FreshV.row2 {w : World} {b n : Nat} {l : List (BitVec 8)} (h : RowV 5 w b (l.map W8)) (hl : l.length = n) (hm : n ≤ 1000000) (B : Nat) (hb : B ≤ b) : FreshV w B (.slice (some ⟨b, 0, none⟩) n n) l := FreshV.row_ h hb hl (by omega)
theorem joinA (w : World) (vs : List Value) (arr : Array Value) (ha : vs.toArray = arr) (ls : List (List (BitVec 8))) (hp : Pcs w w.heap.size vs ls) (n : Nat) (hn : vs.length = n) (hn2 : n ≤ 1000) (hl : ls.flatten.length ≤ 1000000000) :
    Calls Tryd.prog 59 #[.slice (some ⟨w.heap.size, 0, none⟩) n n] (w.alloc (.cells arr 22)) fun e w' => ∃ v, e = .returned v ∧ FreshV w' w.heap.size v ls.flatten ∧ Below w.heap.size w w' := by
  obtain ⟨hpv, hb⟩ := parts_new w vs arr ha ls hp n hn (by omega)
  obtain ⟨W2, e2⟩ : ∃ W, w.alloc (.cells arr 22) = W := ⟨_, rfl⟩
  rw [e2] at hpv hb ⊢
  refine (rjoin_any W2 _ _ n n ls hpv (Nat.le_refl _) hn2 hl).mono ?_
  rintro e w3 ⟨v, rfl, ho, hb3⟩
  exact ⟨v, rfl, (FreshV.of_own ho).mono_ hb.size, hb.trans (hb3.mono hb.size)⟩
set_option maxRecDepth 100000 in
theorem rencoaep_no1 (w : World) (k n : Int) (v : Value) (A2 : Option Addr) (n2 c2 : Nat) (v4 : Value) (h : 65536 < n ∨ okB k n2 = false) :
    Calls Tryd.prog 28 #[.int .i64 k, .int .i64 n, v, .slice A2 n2 c2, v4] w fun e w' => e = .returned (.tuple #[.slice none 0 0, .int .i64 7]) ∧ w = w' := by
  have hs := rsize_any w k
  have hbd := sizeV_bd k
  have hok : okB k n2 = decide (0 < sizeV k ∧ (n2 : Int) = sizeV k) := rfl
  obtain ⟨z, hz⟩ : ∃ z, sizeV k = z := ⟨_, rfl⟩
  rw [hz] at hs hbd hok
  have z0 := hbd.1
  have HS := Lib.hid hs
  clear hs hbd hz
  by_cases h0 : z = 0
  · subst h0
    clear h hok
    go_enter Tryd.func28, Tryd.ntmps28
    go_wp2_with fail
    refine HS.out.mono ?_
    rintro e w' ⟨rfl, rfl⟩
    go_wp2
    go_ret2
    exact ⟨rfl, rfl⟩
  · have kz : (z == 0) = false := beq_eq_false_iff_ne.2 h0
    by_cases h1 : 65536 < n
    · clear h hok
      go_enter Tryd.func28, Tryd.ntmps28
      go_wp2_with fail
      refine HS.out.mono ?_
      rintro e w' ⟨rfl, rfl⟩
      go_wp2
      go_ret2
      exact ⟨rfl, rfl⟩
    · have hne : ¬ (n2 : Int) = z := by
        intro e
        rcases h with h | h
        · exact h1 h
        · rw [hok] at h
          exact of_decide_eq_false h ⟨by omega, e⟩
      have kb : ((n2 : Int) != z) = true := by simpa using hne
      clear h hok
      go_enter Tryd.func28, Tryd.ntmps28
      go_wp2_with fail
      refine HS.out.mono ?_
      rintro e w' ⟨rfl, rfl⟩
      go_wp2
      go_ret2
      exact ⟨rfl, rfl⟩
set_option maxRecDepth 100000 in
theorem rencoaep_no2 (w : World) (k n : Int) (v : Value) (A2 : Option Addr) (n2 c2 : Nat) (A3 : Option Addr) (n3 c3 : Nat) (h0 : -9223372036854775808 ≤ n) (h : n ≤ 65536) (hok : okB k n2 = true) (hsm : n < 2 * sizeV k + 2 ∨ n - (2 * sizeV k + 2) < n3) :
    Calls Tryd.prog 28 #[.int .i64 k, .int .i64 n, v, .slice A2 n2 c2, .slice A3 n3 c3] w fun e w' => e = .returned (.tuple #[.slice none 0 0, .int .i64 33]) ∧ w = w' := by
  have hs := rsize_any w k
  have hbd := sizeV_bd k
  have ho := of_decide_eq_true hok
  obtain ⟨z, hz⟩ : ∃ z, sizeV k = z := ⟨_, rfl⟩
  rw [hz] at hs hbd ho hsm
  have z0 := ho.1
  have z1 := hbd.2
  have hn2 := ho.2
  have HS := Lib.hid hs
  have kz : (z == 0) = false := beq_eq_false_iff_ne.2 (by omega)
  have kb : ((n2 : Int) != z) = false := by simpa using hn2
  have h65 : ¬ 65536 < n := by omega
  clear hs hbd hz ho hok
  have HN2 := Lib.hid hn2
  clear hn2
  by_cases h1 : n < 2 * z + 2
  · clear hsm
    go_enter Tryd.func28, Tryd.ntmps28
    go_wp2_with fail
    refine HS.out.mono ?_
    rintro e w' ⟨rfl, rfl⟩
    go_wp2
    go_ret2
    exact ⟨rfl, rfl⟩
  · have h2 : n - 2 * z - 2 < n3 := by omega
    have h3 : 2 * z + 2 ≤ n := by omega
    clear hsm h1
    go_enter Tryd.func28, Tryd.ntmps28
    go_wp2_with fail
    refine HS.out.mono ?_
    rintro e w' ⟨rfl, rfl⟩
    go_wp2
    go_ret2
    exact ⟨rfl, rfl⟩
set_option maxRecDepth 100000 in
set_option maxHeartbeats 4000000 in
theorem rencoaep_ok (w : World) (k : Int) (N : Nat) (hN : N ≤ 500) (B : Nat) (A1 : Option Addr) (n1 c1 : Nat) (label : List (BitVec 8)) (h1 : SlV w B A1 n1 c1 (label.map W8)) (z1 : A1 = none → c1 = 0)
    (A2 : Option Addr) (n2 c2 : Nat) (seed : List (BitVec 8)) (h2 : SlV w B A2 n2 c2 (seed.map W8)) (z2 : A2 = none → c2 = 0) (hok : okB k n2 = true) (A3 : Option Addr) (n3 c3 : Nat) (m : List (BitVec 8)) (h3 : SlV w B A3 n3 c3 (m.map W8)) (z3 : A3 = none → c3 = 0)
    (hB : B ≤ w.heap.size) (hn1 : n1 ≤ 1000000) (Z : Nat) (hfit : n3 + (2 * szN k + 2) + Z = N) :
    Calls Tryd.prog 28 #[.int .i64 k, .int .i64 (N : Int), .slice A1 n1 c1, .slice A2 n2 c2, .slice A3 n3 c3] w fun e w' => ∃ v, e = .returned (.tuple #[v, .int .i64 0]) ∧ FreshV w' w.heap.size v (oaepL k Z label seed m) ∧ Below w.heap.size w w' := by
  obtain ⟨hk, hn2⟩ := okB_kind hok
  have hs := rsize_any w k
  have hle := szN_le hk
  rw [szN_eq hk] at hs
  have hof := rofO_any w k hk B A1 n1 c1 label h1 z1 hB (by omega)
  obtain ⟨h, hh⟩ : ∃ h, szN k = h := ⟨_, rfl⟩
  rw [hh] at hs hn2 hfit hle hof
  have kz : ((h : Int) == 0) = false := beq_eq_false_iff_ne.2 (by omega)
  have kn : ((n2 : Int) != (h : Int)) = false := by simp; omega
  have k1 : (N : Int) ≤ 500 := by omega
  have k2 : ¬ (65536 : Int) < N := by omega
  have k3 : ¬ (N : Int) < 2 * h + 2 := by omega
  have k4 : ¬ (N : Int) - 2 * h - 2 < n3 := by omega
  have k5 : (n3 : Int) ≤ (N : Int) - 2 * h - 2 := by omega
  have k6 : (2 : Int) * h + 2 ≤ N := by omega
  have k7 : (20 : Int) ≤ h := by omega
  have k8 : (h : Int) ≤ 64 := by omega
  have k9 : (N : Int) - h - 1 - n3 - 1 = (h : Int) + (Z : Int) := by omega
  have k10 : (Z : Int) ≤ 500 := by omega
  have hl1 : label.length = n1 := by simpa using h1.len.symm
  have hl2 : seed.length = n2 := by simpa using h2.len.symm
  have hl3 : m.length = n3 := by simpa using h3.len.symm
  have HOF := Lib.hid hof
  have HS := Lib.hid hs
  have S2 := Lib.hid (h2.more hB)
  have Z2 := Lib.hid z2
  have S3 := Lib.hid (h3.more hB)
  have Z3 := Lib.hid z3
  have HN := Lib.hid (⟨hk, hh, hle.1, hle.2.2, hn2, hfit, hN⟩ : KindOk k ∧ szN k = h ∧ 20 ≤ h ∧ h ≤ 64 ∧ n2 = h ∧ n3 + (2 * h + 2) + Z = N ∧ N ≤ 500)
  have HL := Lib.hid (⟨hl1, hl2, hl3, hn1⟩ : label.length = n1 ∧ seed.length = n2 ∧ m.length = n3 ∧ n1 ≤ 1000000)
  obtain ⟨D, hD⟩ : ∃ l, sumK k label = l := ⟨_, rfl⟩
  have hDs : sumL k label = D := by rw [← hD, sumK, if_pos (show 1 ≤ k ∧ k ≤ 5 from hk)]
  rw [hDs] at hof
  have HOF := Lib.hid hof
  have HD := Lib.hid hD
  clear hk hn2 hs hof hok hle hh hfit hN hl1 hl2 hl3 h1 z1 h2 z2 h3 z3 hB hn1 hD hDs
  go_enter Tryd.func28, Tryd.ntmps28
  go_wp2_with fail
  refine HS.out.mono ?_
  rintro e w' ⟨rfl, rfl⟩
  go_wp2_with fail
  refine HOF.out.mono ?_
  rintro e w1 ⟨v1, rfl, hown1, hb1⟩
  obtain ⟨Aa, ca, rfl⟩ := own_slice hown1
  have HO1 := Lib.hid hown1
  have HB1 := Lib.hid hb1
  clear hown1 hb1 HOF HS
  go_wp2
  go_loopw [13] (fun v wr => ∃ (j : Nat) (Ab : Option Addr) (cb : Nat), j ≤ Z ∧ v = .slice Ab (h + j) cb ∧ Hid (wr.ownsRow w.heap.size 5 1 (.slice Ab (h + j) cb) (h + j) ((D ++ List.replicate j 0 : List (BitVec 8)).map W8)) ∧ Hid (Below w.heap.size w wr)) (fun v _ => h + Z + 1 - lenV v)
  case atStart => exact ⟨0, Aa, ca, by omega, rfl, by simpa using HO1, HB1⟩
  case round =>
    obtain ⟨j, Ab, cb, hj, rfl, HO, HB⟩ := hrel
    by_cases hjr : j = Z
    · subst hjr
      have kj : ¬ (h : Int) + j < h + j := by omega
      obtain ⟨L, hLe⟩ : ∃ L, h + j + 1 + n3 = L := ⟨_, rfl⟩
      have kL : (L : Int) ≤ 500 := by have := HN.out; omega
      have kL1 : (1 : Int) ≤ L := by omega
      obtain ⟨W1, e1, so1, b1⟩ := new1 wr 1 #[.int .u8 1] rfl
      have ho1 := own_later_ HO.out b1
      have hb1 := HB.out.trans (b1.mono HB.out.size)
      have hz1 := hb1.size
      have hsz : h + j + 1 + n3 ≤ 17592186044416 := by omega
      have HLE := Lib.hid hLe
      clear b1 hLe
      go_wp2_with (first | (at_builtin; refine wlv_append Tryd.elem8 rfl _ _ rfl w.heap.size _ (h + j) ((D ++ List.replicate j 0 : List (BitVec 8)).map W8) rfl ho1 (some ⟨wr.heap.size, 0, none⟩) 1 1 _ rfl (fun x => by cases x) _ so1 (ones8 [1]) (by omega) hz1 ?_; intro v2 w2 hown2 hgr2; have hb2 := hb1.grown hgr2 hz1 (fun q hq => (ho1.lt q hq).1); rw [← List.map_append] at hown2; obtain ⟨A2', c2', rfl⟩ := own_slice hown2; have hz2 := hb2.size; have so2 := S3.out.below hb2; clear e1 ho1 so1 hb1 hgr2) | (at_builtin; refine wlv_append Tryd.elem8 rfl _ _ rfl w.heap.size _ (h + j + 1) ((D ++ List.replicate j 0 ++ [1] : List (BitVec 8)).map W8) rfl hown2 A3 n3 c3 _ rfl Z3.out _ so2 (ones8 m) hsz hz2 ?_; intro v3 w3 hown3 hgr3; have hb3 := hb2.grown hgr3 hz2 (fun q hq => (hown2.lt q hq).1); rw [← List.map_append, HLE.out] at hown3; obtain ⟨A3', c3', rfl⟩ := own_slice hown3; have hz3 := hb3.size; clear hown2 so2 hb2 hgr3; have hmg := rmgf_any w3 k HN.out.1 _ A2 n2 c2 seed (S2.out.below hb3) Z2.out hb3.size (by have := HN.out; omega) L (by omega) (by omega); have HMG := Lib.hid hmg; clear hmg))
      refine HMG.out.mono ?_
      rintro e w4 ⟨v4, rfl, hf4, hb4⟩
      obtain ⟨A4, n4, c4, rfl⟩ := hf4.form
      obtain rfl := hf4.lit L (mgfL_length HN.out.1 _ _)
      obtain ⟨blk, hbk⟩ : ∃ l, D ++ List.replicate j 0 ++ [1] ++ m = l := ⟨_, rfl⟩
      rw [hbk] at hown3
      have hblk : blockL k j label m = blk := by rw [blockL, HD.out, ← hbk]; simp
      have hf3 : FreshV w3 w.heap.size (.slice A3' n4 c3') blk := FreshV.of_own hown3
      have hbl : blk.length = n4 := hf3.len_.symm
      obtain ⟨s3, _⟩ := (hf3.up hb4).pc.sl
      obtain ⟨s4, _⟩ := hf4.pc.sl
      have hx := rxor_any w4 w4.heap.size (Nat.le_refl _) A3' n4 c3' blk s3 A4 n4 c4 _ s4 (Nat.le_refl _) (by omega)
      have hmk : xorL blk (mgfL k seed n4) = maskK k blk seed := by rw [maskK, hbl]
      rw [hmk] at hx
      obtain ⟨hid, hhd⟩ : ∃ l, maskK k blk seed = l := ⟨_, rfl⟩
      rw [hhd] at hx
      have hhl : hid.length = n4 := by rw [← hhd, maskK_length HN.out.1, hbl]
      have hb04 := hb3.trans (hb4.mono hz3)
      have HX := Lib.hid hx
      have HB4 := Lib.hid hb04
      have HK := Lib.hid (⟨hblk, hhd, hhl⟩ : blockL k j label m = blk ∧ maskK k blk seed = hid ∧ hid.length = n4)
      clear hx hb04 hblk hhd hhl hmk s3 s4 hf3 hf4 hbl hbk hown3 hb3 hb4 hz3 HMG
      go_wp2_with fail
      refine HX.out.mono ?_
      rintro e w5 ⟨rfl, hr5, hb5⟩
      have hf5 : FreshV w5 w4.heap.size (.slice (some ⟨w4.heap.size, 0, none⟩) n4 n4) hid := FreshV.row2 hr5 HK.out.2.2 (by omega) _ (Nat.le_refl _)
      have hb05 := HB4.out.trans (hb5.mono HB4.out.size)
      obtain ⟨s5, z5⟩ := hf5.pc.sl
      have hmg := rmgf_any w5 k HN.out.1 _ _ n4 n4 hid s5 z5 (Nat.le_refl _) (by omega) h (by omega) (by omega)
      have HMG := Lib.hid hmg
      have HB5 := Lib.hid hb05
      have HF5 := Lib.hid hf5
      clear hmg hb05 s5 z5 hf5 hr5 hb5 HX HB4
      go_wp2_with fail
      refine HMG.out.mono ?_
      rintro e w6 ⟨v6, rfl, hf6, hb6⟩
      obtain ⟨A6, n6, c6, rfl⟩ := hf6.form
      obtain rfl := hf6.lit h (mgfL_length HN.out.1 _ _)
      obtain ⟨s6, _⟩ := hf6.pc.sl
      have hb06 := HB5.out.trans (hb6.mono HB5.out.size)
      have hx := rxor_any w6 w6.heap.size (Nat.le_refl _) A2 n2 c2 seed ((S2.out.below hb06).more hb06.size) A6 n6 c6 _ s6 (by have := HN.out; omega) (by omega)
      have hmk : xorL seed (mgfL k hid n6) = maskK k seed hid := by rw [maskK, HL.out.2.1, HN.out.2.2.2.2.1]
      rw [hmk] at hx
      have HX := Lib.hid hx
      have HB6 := Lib.hid hb06
      have HF6 := Lib.hid (HF5.out.up hb6)
      clear hx hmk hb06 s6 hf6 hb6 HMG HF5 HB5
      go_wp2_with fail
      refine HX.out.mono ?_
      rintro e w7 ⟨rfl, hr7, hb7⟩
      have hml : (maskK k seed hid).length = n2 := by rw [maskK_length HN.out.1, HL.out.2.1]
      have hf7 : FreshV w7 w6.heap.size (.slice (some ⟨w6.heap.size, 0, none⟩) n2 n2) (maskK k seed hid) := FreshV.row2 hr7 hml (by have := HN.out; omega) _ (Nat.le_refl _)
      obtain ⟨hf8, hb8⟩ := freshA w7 [0] #[.int .u8 0] rfl 1 rfl (by decide)
      obtain ⟨W8', e8⟩ : ∃ W, w7.alloc (.cells #[.int .u8 0] 5) = W := ⟨_, rfl⟩
      rw [e8] at hf8 hb8
      have hb07 := HB6.out.trans (hb7.mono HB6.out.size)
      have hb08 := hb07.trans (hb8.mono hb07.size)
      have hj := joinA W8' [.slice (some ⟨w7.heap.size, 0, none⟩) 1 1, .slice (some ⟨w6.heap.size, 0, none⟩) n2 n2, .slice (some ⟨w4.heap.size, 0, none⟩) n4 n4] #[.slice (some ⟨w7.heap.size, 0, none⟩) 1 1, .slice (some ⟨w6.heap.size, 0, none⟩) n2 n2, .slice (some ⟨w4.heap.size, 0, none⟩) n4 n4] rfl [[0], maskK k seed hid, hid] ⟨hf8.pc, (hf7.up hb8).pc, (HF6.out.up (hb7.trans (hb8.mono hb7.size))).pc, trivial⟩ 3 rfl (by decide) (by have := HN.out; have := HK.out.2.2; simp; omega)
      have hfin : [[0], maskK k seed hid, hid].flatten = oaepL k j label seed m := by rw [oaepL, HK.out.1, HK.out.2.1]; simp
      rw [hfin] at hj
      have HJ := Lib.hid hj
      have HB8 := Lib.hid hb08
      clear hj hfin hb07 hb08 hf7 hf8 hr7 hb7 hb8 hml HX HB6 HF6
      go_wp2_with fail
      refine HJ.out.mono ?_
      rintro e w9 ⟨v9, rfl, hf9, hb9⟩
      have HF9 := Lib.hid (hf9.mono_ HB8.out.size)
      have HB9 := Lib.hid (HB8.out.trans (hb9.mono HB8.out.size))
      clear hf9 hb9
      go_wp2
      go_ret2
      exact ⟨_, rfl, HF9.out, HB9.out⟩
    · have kj : (h : Int) + j < h + Z := by omega
      obtain ⟨W1, e1, so1, b1⟩ := new1 wr 0 #[.int .u8 0] rfl
      have ho1 := own_later_ HO.out b1
      have hb1 := HB.out.trans (b1.mono HB.out.size)
      have hz1 := hb1.size
      have hsz : h + j + 1 ≤ 17592186044416 := by have := HN.out; omega
      clear b1
      go_wp2_with (at_builtin; refine wlv_append Tryd.elem8 rfl _ _ rfl w.heap.size _ (h + j) ((D ++ List.replicate j 0 : List (BitVec 8)).map W8) rfl ho1 (some ⟨wr.heap.size, 0, none⟩) 1 1 _ rfl (fun x => by cases x) _ so1 (ones8 [0]) hsz hz1 ?_; intro v2 w2 hown2 hgr2; have hb2 := hb1.grown hgr2 hz1 (fun q hq => (ho1.lt q hq).1); rw [← List.map_append, List.append_assoc, ← List.replicate_succ'] at hown2; obtain ⟨A2', c2', rfl⟩ := own_slice hown2; clear e1 ho1 so1 hb1 hgr2)
      go_roundw
      case rel => exact ⟨j + 1, A2', c2', by omega, rfl, Lib.hid hown2, Lib.hid hb2⟩
      case measure => simp [lenV]; omega
end Go.Proofs.YtnpaidieijlkkaaDoor
