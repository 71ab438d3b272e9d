/- pad: EncPSS, its result as an owned row. -/
import Derived.Test.YtnpaidieijlkkabDoorPileK11
set_option linter.unusedVariables false
set_option linter.unusedSimpArgs false
namespace Go.Proofs.YtnpaidieijlkkabDoor
open Go.RowKit Go.Shelf

theorem own_less {w : World} {B B' : Nat} {e : TypeId} {v : Value} {n : Nat} {xs : List Value} (h : w.ownsRow B e 1 v n xs) (hb : B' ≤ B) : w.ownsRow B' e 1 v n xs := by
  refine ⟨h.1, ?_⟩
  rcases h.2 with h2 | ⟨g, cap, cur, e0, h4, h5⟩
  · exact .inl h2
  · exact .inr ⟨g, cap, cur, e0, Nat.le_trans hb h4, h5⟩
theorem concatO (w : World) (vs : List Value) (arr : Array Value) (ha : vs.toArray = arr) (ls : List (List (BitVec 8))) (hp : Pcs w w.heap.size vs ls) (n : Nat) (hn : vs.length = n) (hn2 : n ≤ 1000000) (hl : ls.flatten.length ≤ 17592186044416) :
    Calls Tryd.prog 17 #[.slice (some ⟨w.heap.size, 0, none⟩) n n] (w.alloc (.cells arr 22)) fun e w' => ∃ v, e = .returned v ∧ w'.ownsRow w.heap.size 5 1 v ls.flatten.length (ls.flatten.map W8) ∧ Below w.heap.size w w' := by
  obtain ⟨hpv, hb⟩ := parts_new w vs arr ha ls hp n hn hn2
  obtain ⟨W2, e2⟩ : ∃ W, w.alloc (.cells arr 22) = W := ⟨_, rfl⟩
  rw [e2] at hpv hb ⊢
  refine (concat_any W2 _ _ n n ls hpv (Nat.le_refl _) hn2 hl).mono ?_
  rintro e w3 ⟨v, rfl, ho, hb3⟩
  exact ⟨v, rfl, own_less ho hb.size, hb.trans (hb3.mono hb.size)⟩
set_option maxRecDepth 100000 in
set_option maxHeartbeats 4000000 in
theorem pencpss_own (w : World) (k : Int) (hGS : StartsG w) (hGR : RootsG w) (bits N : Nat) (hN : (bits + 7) / 8 = N) (B : Nat) (A1 : Option Addr) (n1 c1 : Nat) (hash : List (BitVec 8)) (h1 : SlV w B A1 n1 c1 (hash.map W8)) (z1 : A1 = none → c1 = 0) (h : psB k (bits : Int) n1 = true)
    (A2 : Option Addr) (n2 c2 : Nat) (salt : List (BitVec 8)) (h2 : SlV w B A2 n2 c2 (salt.map W8)) (z2 : A2 = none → c2 = 0) (hB : B ≤ w.heap.size) (Z : Nat) (hZ : n1 + n2 + 2 + Z = N) :
    Calls Tryd.prog 6 #[.int .i64 k, .int .i64 (bits : Int), .slice A1 n1 c1, .slice A2 n2 c2] w fun e w' => ∃ v, e = .returned (.tuple #[v, .int .i64 0]) ∧ w'.ownsRow w.heap.size 5 1 v (pssL k Z (8 * N - bits) hash salt).length ((pssL k Z (8 * N - bits) hash salt).map W8) ∧ Below w.heap.size w w' := by
  have hi := pencodable_any w k (bits : Int) A1 n1 c1
  rw [h] at hi
  obtain ⟨hok, hb1, hb2⟩ := of_decide_eq_true h
  obtain ⟨hk, hn⟩ := okB_kind hok
  have hle := szN_le hk
  have hbo : ∀ V : World, Calls Tryd.prog 14 #[.int .i64 (bits : Int)] V fun e w' => e = .returned (.int .i64 (N : Int)) ∧ V = w' := fun V => pbytesof_any V bits N (by omega) (by omega) hN
  have k1 : (n1 : Int) ≤ 64 := by omega
  have k2 : (n2 : Int) ≤ 8192 := by omega
  have k3 : (N : Int) ≤ 8192 := by omega
  have k4 : (N : Int) - n1 - n2 - 2 = (Z : Int) := by omega
  have k5 : (Z : Int) ≤ 8192 := by omega
  have hl1 : hash.length = n1 := by simpa using h1.len.symm
  have hl2 : salt.length = n2 := by simpa using h2.len.symm
  obtain ⟨s, hs⟩ : ∃ s, 8 * N - bits = s := ⟨_, rfl⟩
  have k6 : 8 * (N : Int) - (bits : Int) = (s : Int) := by omega
  have k7 : (s : Int) ≤ 7 := by omega
  rw [hs]
  have HI := Lib.hid hi
  have HBO := Lib.hid hbo
  have HG := Lib.hid (⟨hGS, hGR⟩ : StartsG w ∧ RootsG w)
  have P1 := Lib.hid ((Pc.of_sl h1 z1).more hB)
  have P2 := Lib.hid ((Pc.of_sl h2 z2).more hB)
  have HL := Lib.hid (⟨hl1, hl2⟩ : hash.length = n1 ∧ salt.length = n2)
  have HN := Lib.hid (⟨hk, hn, hZ, hle.1, hle.2.2, by omega⟩ : KindOk k ∧ n1 = szN k ∧ n1 + n2 + 2 + Z = N ∧ 20 ≤ szN k ∧ szN k ≤ 64 ∧ N ≤ 8192)
  clear hi hbo h hok hk hn hle hN hZ hs h1 h2 z1 z2 hB hGS hGR hl1 hl2
  go_enter Tryd.func6, Tryd.ntmps6
  go_wp2_with fail
  refine HI.out.mono ?_
  rintro e w' ⟨rfl, rfl⟩
  go_wp2_with fail
  refine (HBO.out _).mono ?_
  rintro e w' ⟨rfl, rfl⟩
  have k8 : ¬ (N : Int) - n1 - n2 - 2 < 0 := by omega
  clear HI
  go_wp2_with (at_make; refine wlv_make Tryd.elem8 rfl _ rfl _ 8 rfl rfl (by omega) ?_; intro w1 hr1 hb1 hz1; clear hz1)
  have hz8 : FreshV w1 w.heap.size (.slice (some ⟨w.heap.size, 0, none⟩) 8 8) (List.replicate 8 0) := FreshV.row_ (by rw [List.map_replicate]; exact hr1) (Nat.le_refl _) (by simp) (by decide)
  have hof := ofA w1 k (HG.out.1.later hb1) (HG.out.2.later hb1) [.slice (some ⟨w.heap.size, 0, none⟩) 8 8, .slice A1 n1 c1, .slice A2 n2 c2] #[.slice (some ⟨w.heap.size, 0, none⟩) 8 8, .slice A1 n1 c1, .slice A2 n2 c2] rfl [List.replicate 8 0, hash, salt] ⟨hz8.pc, P1.out.up hb1, P2.out.up hb1, trivial⟩ 3 rfl (by decide) (by have := HL.out; have := HN.out; simp; omega)
  rw [show ([List.replicate 8 0, hash, salt] : List (List (BitVec 8))).flatten = List.replicate 8 0 ++ (hash ++ salt) by simp] at hof
  have HOF := Lib.hid hof
  have HB1 := Lib.hid hb1
  clear hof hr1 hb1 hz8
  go_wp2_with fail
  refine HOF.out.mono ?_
  rintro e w2 ⟨v2, rfl, hf2, hb2⟩
  obtain ⟨Ah, nh, ch, rfl⟩ := hf2.form
  have hnh : nh = n1 := by rw [hf2.len_, sumK_len HN.out.1, HN.out.2.1]
  obtain ⟨H, hH⟩ : ∃ l, sumK k (List.replicate 8 0 ++ (hash ++ salt)) = l := ⟨_, rfl⟩
  rw [hH] at hf2
  have hb02 : Below w.heap.size w w2 := HB1.out.trans (hb2.mono HB1.out.size)
  have HF2 := Lib.hid hf2
  have HH := Lib.hid hH
  have HB2 := Lib.hid hb02
  have HNH := Lib.hid hnh
  clear hf2 hH hb02 hb2 hnh HOF HB1
  go_wp2_with (at_make; refine wlv_make Tryd.elem8 rfl _ rfl _ Z rfl rfl (by omega) ?_; intro w3 hr3 hb3 hz3; clear hz3; obtain ⟨W4, e4⟩ : ∃ W, w3.alloc (.cells #[.int .u8 1] 5) = W := ⟨_, rfl⟩)
  have hz3 : FreshV w3 w2.heap.size (.slice (some ⟨w2.heap.size, 0, none⟩) Z Z) (List.replicate Z 0) := FreshV.row_ (by rw [List.map_replicate]; exact hr3) (Nat.le_refl _) (by simp) (by omega)
  obtain ⟨hf4, hb4⟩ := freshA w3 [1] #[.int .u8 1] rfl 1 rfl (by decide)
  rw [e4] at hf4 hb4
  have hb24 : Below w2.heap.size w2 W4 := hb3.trans (hb4.mono hb3.size)
  have hb04 : Below w.heap.size w W4 := HB2.out.trans (hb24.mono HB2.out.size)
  have hcc := concatA W4 [.slice (some ⟨w2.heap.size, 0, none⟩) Z Z, .slice (some ⟨w3.heap.size, 0, none⟩) 1 1, .slice A2 n2 c2] #[.slice (some ⟨w2.heap.size, 0, none⟩) Z Z, .slice (some ⟨w3.heap.size, 0, none⟩) 1 1, .slice A2 n2 c2] rfl [List.replicate Z 0, [1], salt] ⟨(hz3.up hb4).pc, hf4.pc, P2.out.up hb04, trivial⟩ 3 rfl (by decide) (by have := HL.out; have := HN.out; simp; omega)
  have hblk : [List.replicate Z 0, [1], salt].flatten = pssBlk Z salt := by simp [pssBlk]
  have hbl : (pssBlk Z salt).length = Z + 1 + n2 := by have := HL.out.2; simp [pssBlk]; omega
  rw [hblk] at hcc
  obtain ⟨blk, hbk⟩ : ∃ l, pssBlk Z salt = l := ⟨_, rfl⟩
  rw [hbk] at hcc hbl
  have HCC := Lib.hid hcc
  have HBK := Lib.hid (⟨hbk, hbl⟩ : pssBlk Z salt = blk ∧ blk.length = Z + 1 + n2)
  have HB4 := Lib.hid hb04
  have HF4 := Lib.hid (HF2.out.up hb24)
  clear hcc hblk hbl hbk hf4 hb4 hb24 hb04 hz3 hr3 hb3 HF2 HB2
  go_wp2_with fail
  refine HCC.out.mono ?_
  rintro e w5 ⟨v5, rfl, hf5, hb5⟩
  obtain ⟨Ab, nb, cb, rfl⟩ := hf5.form
  have hnb : nb = Z + 1 + n2 := by rw [hf5.len_, HBK.out.2]
  have hb05 : Below w.heap.size w w5 := HB4.out.trans (hb5.mono HB4.out.size)
  obtain ⟨sB, zB⟩ := hf5.pc.sl
  obtain ⟨sH, zH⟩ := (HF4.out.up hb5).pc.sl
  have hma := pmasked_any w5 k HN.out.1 (HG.out.1.later hb05) (HG.out.2.later hb05) w5.heap.size Ab nb cb blk sB Ah nh ch H sH zH (Nat.le_refl _) (by omega) (by have := HN.out; omega) (by have := HN.out; have := HNH.out; omega)
  have hmk : xorL blk (mgfL k H nb) = maskK k blk H := by rw [maskK, HBK.out.2, hnb]
  rw [hmk] at hma
  have HMA := Lib.hid hma
  have HB5 := Lib.hid hb05
  have HF5 := Lib.hid (HF4.out.up hb5)
  have HNB := Lib.hid hnb
  clear hma hmk hb05 hnb sB zB sH zH hf5 hb5 HCC HB4 HF4
  go_wp2_with fail
  refine HMA.out.mono ?_
  rintro e w6 ⟨v6, rfl, hown6, hb6⟩
  obtain ⟨g6, c6, ys, rfl, hg6, hr6, hyl, hnc, hcm, htk⟩ := own_row2 hown6 (by have := HNB.out; omega)
  obtain ⟨hid, hhd⟩ : ∃ l, maskK k blk H = l := ⟨_, rfl⟩
  rw [hhd] at htk
  obtain ⟨x, t, hx⟩ : ∃ x t, hid = x :: t := by
    cases hid with
    | nil =>
      exfalso
      have h := congrArg List.length hhd
      rw [maskK_length HN.out.1, HBK.out.2] at h
      simp at h
    | cons x t => exact ⟨x, t, rfl⟩
  have hy0 : ys[0]? = some (W8 x) := by
    have h := congrArg (fun l => l[0]?) htk
    rw [hx] at h
    simp only [List.getElem?_take, List.map_cons, List.getElem?_cons_zero] at h
    rw [if_pos (by have := HNB.out; omega)] at h
    exact h
  have hc0 : w6.cell? ⟨g6, 0, none⟩ = some (W8 x) := hr6.at_ hy0
  have hf0 := hr6.frozen 0
  have knb : (0 : Int) < nb := by have := HNB.out; omega
  have kc6 : (0 : Int) < c6 := by omega
  have hr7 := hr6.set 0 (W8 (x &&& ((0xff : BitVec 8) >>> s)))
  have HR7 := Lib.hid hr7
  have HB6 := Lib.hid (HB5.out.trans (hb6.mono HB5.out.size))
  have HYB := Lib.hid (show w.heap.size ≤ g6 from Nat.le_trans HB5.out.size hg6)
  have HB56 := Lib.hid hb6
  have HY := Lib.hid (⟨hg6, hyl, hnc, hcm, htk, hhd, hx⟩ : w5.heap.size ≤ g6 ∧ ys.length = c6 ∧ nb ≤ c6 ∧ c6 ≤ maxLen ∧ ys.take nb = hid.map W8 ∧ maskK k blk H = hid ∧ hid = x :: t)
  clear hr7 hown6 hb6 hg6 hr6 hyl hnc hcm htk hhd hx hy0 HMA HB5
  have hmx : Tryd.prog.follows .mixedOrders = true := by kernel_rfl
  have m1 : IntKind.i64.wrap (8 * (N : Int)) = 8 * (N : Int) := by rw [IntKind.wrap_i64]; omega
  have m2 : IntKind.i64.wrap (8 * (N : Int) - (bits : Int)) = (s : Int) := by rw [IntKind.wrap_i64]; omega
  have hsh : ∀ V : World, Sem.run Tryd.prog (Op.shift .shr .u8 255 .i64 (s : Int)) V = .ok (W8 ((0xff : BitVec 8) >>> s)) V := psh8 s (by omega)
  have knb0 : ¬ nb = 0 := by omega
  have hsh2 : (255 : Int) / 2 ^ s = i8 ((0xff : BitVec 8) >>> s) := psh8' s (by omega)
  have hand := b8_and x ((0xff : BitVec 8) >>> s)
  go_wp2_with fail
  refine (wpIn_wide (n := 9)).1 (wpIn_region_pure rfl hmx [(44, .slice (some ⟨g6, 0, none⟩) nb c6), (45, .pointer (some ⟨g6, 0, none⟩)), (46, W8 x), (47, .int .i64 (bits : Int)), (48, .int .i64 (N : Int)), (49, .int .i64 (8 * (N : Int))), (50, .int .i64 (bits : Int)), (51, .int .i64 (s : Int)), (52, W8 ((0xff : BitVec 8) >>> s)), (53, W8 (x &&& ((0xff : BitVec 8) >>> s))), (54, .pointer (some ⟨g6, 0, none⟩))] (by kernel_rfl) (by kernel_rfl) (by kernel_rfl) (by kernel_rfl) (by first | rfl | simp) 11 (w6.setCell ⟨g6, 0, none⟩ (W8 (x &&& ((0xff : BitVec 8) >>> s)))) rfl (by kernel_rfl) ?ops7 ?last7 ?end7)
  case ops7 =>
    intro i o hi ho
    have hi2 : i = 0 ∨ i = 1 ∨ i = 2 ∨ i = 3 ∨ i = 4 ∨ i = 5 ∨ i = 6 ∨ i = 7 ∨ i = 8 ∨ i = 9 ∨ i = 10 := by omega
    rcases hi2 with rfl | rfl | rfl | rfl | rfl | rfl | rfl | rfl | rfl | rfl | rfl
    all_goals
      have ho' := ho
      simp only [List.getElem?_toArray, List.getElem?_cons_zero, List.getElem?_cons_succ, Option.some.injEq] at ho'
      subst ho'
      refine ⟨(by intro c h; cases h), fun q => ⟨fun _ _ => trivial, ?_⟩⟩
    · exact .inl (by simp [execOp, evP, valP, Act.eval, List.lookup_cons])
    · exact .inl (by simp [execOp, evP, valP, Act.eval, List.lookup_cons, go_sem, knb, knb0])
    · exact .inl (by simp [execOp, evP, valP, Act.eval, List.lookup_cons, go_sem, hc0])
    · exact .inl (by simp [execOp, evP, valP, Act.eval, List.lookup_cons])
    · refine .inr ⟨14, #[.int .i64 (bits : Int)], ?_, (callsIn_wide.2 (HBO.out _)).mono ?_⟩
      · simp [execOp, evP, valP, Act.eval, List.lookup_cons, go_sem]
      · rintro e w' ⟨rfl, rfl⟩
        exact ⟨rfl, 0, rfl⟩
    · exact .inl (by simp [execOp, evP, valP, Act.eval, List.lookup_cons, go_sem, m1])
    · exact .inl (by simp [execOp, evP, valP, Act.eval, List.lookup_cons])
    · exact .inl (by simp [execOp, evP, valP, Act.eval, List.lookup_cons, go_sem, m2])
    · exact .inl (by simp [execOp, evP, valP, Act.eval, List.lookup_cons, go_sem]; exact hsh2)
    · exact .inl (by simp [execOp, evP, valP, Act.eval, List.lookup_cons, go_sem]; exact hand)
    · exact .inl (by simp [execOp, evP, valP, Act.eval, List.lookup_cons, go_sem, knb, knb0])
  case last7 =>
    intro o ho
    have ho' := ho
    simp only [List.getElem?_toArray, List.getElem?_cons_zero, List.getElem?_cons_succ, Option.some.injEq] at ho'
    subst ho'
    refine ⟨(by intro c h; cases h), fun q => ⟨fun _ _ => trivial, .inl ⟨?_, rfl⟩⟩⟩
    simp [execOp, evP, valP, Act.eval, List.lookup_cons, go_sem, hc0, hf0]
    try rfl
  case end7 =>
    intro q
    simp [wrote, valP, Act.put, List.lookup_cons]
    obtain ⟨W7, e7⟩ : ∃ W, (w6.setCell ⟨g6, 0, none⟩ (W8 (x &&& ((0xff : BitVec 8) >>> s)))).drewN q = W := ⟨_, rfl⟩
    have hb57 : Below w5.heap.size w5 W7 := by rw [← e7]; exact below_drewN (below_setV HB56.out HY.out.1 0 _) q
    have hb07 : Below w.heap.size w W7 := by rw [← e7]; exact below_drewN (below_setV HB6.out (by have := HYB.out; omega) 0 _) q
    have hr7 : RowV 5 W7 g6 (ys.set 0 (W8 (x &&& ((0xff : BitVec 8) >>> s)))) := by rw [← e7]; exact HR7.out
    have hown7 : W7.ownsRow w5.heap.size 5 1 (.slice (some ⟨g6, 0, none⟩) nb c6) nb ((headAnd s hid).map W8) := by
      refine own_of_row hr7 HY.out.1 (by rw [List.length_set]; exact HY.out.2.1) HY.out.2.2.1 HY.out.2.2.2.1 ?_
      rw [List.take_set, HY.out.2.2.2.2.1, HY.out.2.2.2.2.2.2]
      rfl
    rw [show (255#8 : BitVec 8) = 0xff from rfl, e7]
    have hf7 : FreshV W7 w5.heap.size (.slice (some ⟨g6, 0, none⟩) nb c6) (headAnd s hid) := FreshV.of_own hown7
    obtain ⟨hf8, hb8⟩ := freshA W7 [0xbc] #[.int .u8 188] rfl 1 rfl (by decide)
    obtain ⟨W8', e8⟩ : ∃ W, W7.alloc (.cells #[.int .u8 188] 5) = W := ⟨_, rfl⟩
    rw [e8] at hf8 hb8
    have hcd := concatO W8' [.slice (some ⟨g6, 0, none⟩) nb c6, .slice Ah nh ch, .slice (some ⟨W7.heap.size, 0, none⟩) 1 1] #[.slice (some ⟨g6, 0, none⟩) nb c6, .slice Ah nh ch, .slice (some ⟨W7.heap.size, 0, none⟩) 1 1] rfl [headAnd s hid, H, [0xbc]] ⟨(hf7.up hb8).pc, (HF5.out.up (hb57.trans (hb8.mono hb57.size))).pc, hf8.pc, trivial⟩ 3 rfl (by decide) (by have h1 := (HF5.out.up (hb57.trans (hb8.mono hb57.size))).len_; have h2 := hf7.len_; have := HN.out; have := HNH.out; have := HNB.out; simp; omega)
    have hfin : [headAnd s hid, H, [0xbc]].flatten = pssL k Z s hash salt := by
      rw [pssL, pssH, HH.out, HBK.out.1, HY.out.2.2.2.2.2.1]; simp
    rw [hfin] at hcd
    have HCD := Lib.hid hcd
    have HB8 := Lib.hid (hb07.trans (hb8.mono hb07.size))
    clear hcd hfin hown7 hr7 hf7 hf8 hb8 hb07 hb57 HR7 HB56
    go_wp2_with fail
    refine HCD.out.mono ?_
    rintro e w9 ⟨v9, rfl, hf9, hb9⟩
    have HF9 := Lib.hid (own_less hf9 HB8.out.size)
    have HB9 := Lib.hid (HB8.out.trans (hb9.mono HB8.out.size))
    clear hf9 hb9
    go_wp2
    go_ret2
    exact ⟨_, rfl, HF9.out, HB9.out⟩
theorem peL_pos (k b : Int) (hash salt : List (BitVec 8)) (h : psR k b hash.length salt.length = 0) : 0 < (peL k b hash salt).length := by
  rcases pe_cases k b hash salt with ⟨hp, e1, e2⟩ | ⟨B, N, rfl, hN, hp, hd, e1, e2⟩ | ⟨B, N, Z, rfl, hN, hp, hd, e1, e2⟩
  · rw [e1] at h; cases h
  · rw [e1] at h; cases h
  · obtain ⟨hk, hn, hz, hb1, hb2⟩ := psb_kind hp
    rw [e2, pssL_length hk]
    omega
theorem pencpss_two (w : World) (k : Int) (hGS : StartsG w) (hGR : RootsG w) (b : Int) (A1 : Option Addr) (n1 c1 : Nat) (hash : List (BitVec 8)) (h1 : SlV w w.heap.size A1 n1 c1 (hash.map W8)) (z1 : A1 = none → c1 = 0)
    (A2 : Option Addr) (n2 c2 : Nat) (salt : List (BitVec 8)) (h2 : SlV w w.heap.size A2 n2 c2 (salt.map W8)) (z2 : A2 = none → c2 = 0) (hn2 : n2 ≤ 1000000) :
    Calls Tryd.prog 6 #[.int .i64 k, .int .i64 b, .slice A1 n1 c1, .slice A2 n2 c2] w fun e w' => ∃ v, e = .returned (.tuple #[v, .int .i64 (psR k b hash.length salt.length)]) ∧ (psR k b hash.length salt.length = 0 → w'.ownsRow w.heap.size 5 1 v (peL k b hash salt).length ((peL k b hash salt).map W8)) ∧ (psR k b hash.length salt.length ≠ 0 → v = .slice none 0 0) ∧ Below w.heap.size w w' := by
  have hl1 : hash.length = n1 := by simpa using h1.len.symm
  have hl2 : salt.length = n2 := by simpa using h2.len.symm
  rcases pe_cases k b hash salt with ⟨hp, e1, e2⟩ | ⟨B, N, rfl, hN, hp, hd, e1, e2⟩ | ⟨B, N, Z, rfl, hN, hp, hd, e1, e2⟩
  · rw [e1, e2]
    refine (pencpss_no1 w k b A1 n1 c1 _ (by rw [← hl1]; exact hp)).mono ?_
    rintro e w' ⟨rfl, rfl⟩
    exact ⟨_, rfl, fun h => (absurd h (by decide)), fun _ => rfl, Below.refl _ _⟩
  · rw [e1, e2]
    refine (pencpss_no2 w k B N A1 n1 c1 A2 n2 c2 (by rw [← hl1]; exact hp) hN hn2 (by omega)).mono ?_
    rintro e w' ⟨rfl, rfl⟩
    exact ⟨_, rfl, fun h => (absurd h (by decide)), fun _ => rfl, Below.refl _ _⟩
  · rw [e1, e2]
    refine (pencpss_own w k hGS hGR B N hN _ A1 n1 c1 hash h1 z1 (by rw [← hl1]; exact hp) A2 n2 c2 salt h2 z2 (Nat.le_refl _) Z (by omega)).mono ?_
    rintro e w' ⟨v, rfl, ho, hb⟩
    exact ⟨v, rfl, fun _ => ho, fun h => absurd rfl h, hb⟩
end Go.Proofs.YtnpaidieijlkkabDoor
