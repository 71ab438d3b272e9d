/- baileyref8: Info. -/
import Derived.Test.YtnpaidieijlkkaaDoorPileJ10
set_option linter.unusedVariables false
set_option linter.unusedSimpArgs false
namespace Go.Proofs.YtnpaidieijlkkaaDoor
open Go.RowKit Go.Shelf

theorem own_pc {w : World} {base n : Nat} {v : Value} {l : List (BitVec 8)} (h : w.ownsRow base 5 1 v n (l.map W8)) : ∃ A c, v = .slice A n c ∧ SlV w w.heap.size A n c (l.map W8) ∧ (A = none → c = 0) := own_all h
theorem new2 (w : World) (G : Nat) (hG : G ≤ w.heap.size) (a b : BitVec 8) (arr : Array Value) (ha : #[W8 a, W8 b] = arr) : ∃ W, w.alloc (.cells arr 5) = W ∧ W.ownsRow G 5 1 (.slice (some ⟨w.heap.size, 0, none⟩) 2 2) 2 (([a, b] : List (BitVec 8)).map W8) ∧ Below w.heap.size w W := by
  obtain ⟨W, e, r, b', z⟩ := newV w 5 (([a, b] : List (BitVec 8)).map W8) arr ha
  exact ⟨W, e, row_own r hG (by simp), b'⟩
set_option maxRecDepth 100000 in
theorem rinfo_no (w : World) (k : Int) (A : Option Addr) (n c : Nat) (h : okB k n = false) :
    Calls Tryd.prog 19 #[.int .i64 k, .slice A n c] w fun e w' => e = .returned (.tuple #[.slice none 0 0, .bool false]) ∧ w = w' := by
  have hs : ∀ V, Calls Tryd.prog 45 #[.int .i64 k] V fun e w' => e = .returned (.int .i64 (sizeV k)) ∧ V = w' := fun V => rsize_any V k
  have hok := of_decide_eq_false h
  have hbd := sizeV_bd k
  obtain ⟨z, hz⟩ : ∃ z, sizeV k = z := ⟨_, rfl⟩
  rw [hz] at hs hok hbd
  have HS := Lib.hid hs
  have z0 := hbd.1
  clear hs h hbd hz
  by_cases h0 : z = 0
  · subst h0
    clear hok
    go_enter Tryd.func19, Tryd.ntmps19
    go_wp2_with fail
    refine (HS.out _).mono ?_
    rintro e w' ⟨rfl, rfl⟩
    go_wp2
    go_ret2
    exact ⟨rfl, rfl⟩
  · have hne : ¬ (n : Int) = z := fun e => hok ⟨by omega, e⟩
    have kb : ((n : Int) != z) = true := by simpa using hne
    have kz : (z == 0) = false := beq_eq_false_iff_ne.2 h0
    clear hok
    go_enter Tryd.func19, Tryd.ntmps19
    go_wp2_with fail
    refine (HS.out _).mono ?_
    rintro e w' ⟨rfl, rfl⟩
    go_wp2_with fail
    refine (HS.out _).mono ?_
    rintro e w' ⟨rfl, rfl⟩
    go_wp2
    go_ret2
    exact ⟨rfl, rfl⟩
set_option maxRecDepth 100000 in
set_option maxHeartbeats 4000000 in
theorem rinfo_1 (w : World) (B : Nat) (A : Option Addr) (c : Nat) (hash : List (BitVec 8)) (hs : SlV w B A 20 c (hash.map W8)) (hz : A = none → c = 0) (hB : B ≤ w.heap.size) :
    Calls Tryd.prog 19 #[.int .i64 1, .slice A 20 c] w fun e w' => ∃ v, e = .returned (.tuple #[v, .bool true]) ∧ FreshV w' w.heap.size v (infoL 1 hash) ∧ Below w.heap.size w w' := by
  have hsz : ∀ V, Calls Tryd.prog 45 #[.int .i64 1] V fun e w' => e = .returned (.int .i64 20) ∧ V = w' := fun V => rsize_any V 1
  have hl : hash.length = 20 := by simpa using hs.len.symm
  have HSZ := Lib.hid hsz
  have HL := Lib.hid hl
  have HS := Lib.hid ((hs.more hB))
  have HZ := Lib.hid hz
  obtain ⟨W1, e1, r1, b1, z1⟩ := newV w 5 (([0x60, 0x86, 0x48, 0x01, 0x65, 0x03, 0x04, 0x02, 0] : List (BitVec 8)).map W8) #[.int .u8 96, .int .u8 134, .int .u8 72, .int .u8 1, .int .u8 101, .int .u8 3, .int .u8 4, .int .u8 2, .int .u8 0] rfl
  clear hsz hl hs hz hB z1
  obtain ⟨W2, e2, r2, b2, z2⟩ := newV W1 5 (([0x2b, 0x0e, 0x03, 0x02, 0x1a] : List (BitVec 8)).map W8) #[.int .u8 43, .int .u8 14, .int .u8 3, .int .u8 2, .int .u8 26] rfl
  have hb2 : Below w.heap.size w W2 := b1.trans (b2.mono b1.size)
  have so : SlV W2 W2.heap.size (some ⟨W1.heap.size, 0, none⟩) 5 5 (([0x2b, 0x0e, 0x03, 0x02, 0x1a] : List (BitVec 8)).map W8) := r2.sl (by decide)
  clear z2 r1 r2
  obtain ⟨W3, e3, ho3, b3⟩ := new2 W2 w.heap.size hb2.size 6 5 #[.int .u8 6, .int .u8 5] rfl
  have so3 := (so.below b3).more b3.size
  have hb3 := hb2.trans (b3.mono hb2.size)
  have hz3 := hb3.size
  have hfinT : [48, 33] ++ ([48, 9] ++ ([6, 5] ++ [0x2b, 0x0e, 0x03, 0x02, 0x1a] ++ [5, 0]) ++ [4, 20] ++ hash) = infoL 1 hash := by
    have e : (elemL 0x30 (elemL 6 (oidL 1) ++ elemL 5 []) ++ elemL 4 hash).length = 33 := by simp [elemL, oidL, sha2L, HL.out]
    rw [infoL, elemL, e]
    simp [elemL, oidL, sha2L, HL.out]
  have HFT := Lib.hid hfinT
  clear hfinT
  go_enter Tryd.func19, Tryd.ntmps19
  go_wp2_with fail
  refine (HSZ.out _).mono ?_
  rintro e w' ⟨rfl, rfl⟩
  go_wp2_with fail
  refine (HSZ.out _).mono ?_
  rintro e w' ⟨rfl, rfl⟩
  go_wp2_with (first | (at_builtin; refine wlv_append Tryd.elem8 rfl _ _ rfl w.heap.size _ 2 (([6, 5] : List (BitVec 8)).map W8) rfl ho3 (some ⟨W1.heap.size, 0, none⟩) 5 5 _ rfl (fun x => by cases x) _ so3 (ones8 ([0x2b, 0x0e, 0x03, 0x02, 0x1a])) (by decide) (by assumption) ?_; intro v4 w4 hown4 hgr4; have hb4 := hb3.grown hgr4 (by assumption) (fun q hq => (ho3.lt q hq).1); rw [← List.map_append] at hown4; obtain ⟨A4, c4, rfl⟩ := own_slice hown4; have hz4 := hb4.size; clear e1 e2 e3 ho3 so so3 b3 hb3 hgr4 hz3 hb2; obtain ⟨W5, e5, ho5, b5⟩ := new2 w4 w.heap.size hz4 5 0 #[.int .u8 5, .int .u8 0] rfl; have so5 := own_sl ho5; have hown4' := own_later_ hown4 b5; have hb5 := hb4.trans (b5.mono hz4); have hz5 := hb5.size; clear hown4 ho5 b5 hb4 hz4) | (at_builtin; refine wlv_append Tryd.elem8 rfl _ _ rfl w.heap.size _ (2 + 5) (([6, 5] ++ [0x2b, 0x0e, 0x03, 0x02, 0x1a] : List (BitVec 8)).map W8) rfl hown4' (some ⟨w4.heap.size, 0, none⟩) 2 2 _ rfl (fun x => by cases x) _ so5 (ones8 [5, 0]) (by decide) (by assumption) ?_; intro v6 w6 hown6 hgr6; have hb6 := hb5.grown hgr6 (by assumption) (fun q hq => (hown4'.lt q hq).1); rw [← List.map_append] at hown6; obtain ⟨A6, c6, rfl⟩ := own_slice hown6; have hz6 := hb6.size; clear e5 hown4' so5 hb5 hgr6 hz5; obtain ⟨W7, e7, ho7, b7⟩ := new2 w6 w.heap.size hz6 48 9 #[.int .u8 48, .int .u8 9] rfl; obtain ⟨_, _, ee, so7, zo7⟩ := own_pc (own_later_ hown6 b7); obtain ⟨rfl, rfl⟩ : A6 = _ ∧ c6 = _ := (by injection ee with a b c; exact ⟨a, c⟩); have hb7 := hb6.trans (b7.mono hz6); have hz7 := hb7.size; clear ee hown6 b7 hb6 hz6) | (at_builtin; refine wlv_append Tryd.elem8 rfl _ _ rfl w.heap.size _ 2 (([48, 9] : List (BitVec 8)).map W8) rfl ho7 A6 (2 + 5 + 2) c6 _ rfl zo7 _ so7 (ones8 _) (by decide) (by assumption) ?_; intro v8 w8 hown8 hgr8; have hb8 := hb7.grown hgr8 (by assumption) (fun q hq => (ho7.lt q hq).1); rw [← List.map_append] at hown8; obtain ⟨A8, c8', rfl⟩ := own_slice hown8; have hz8 := hb8.size; clear e7 ho7 so7 zo7 hb7 hgr8 hz7; obtain ⟨W9, e9, ho9, b9⟩ := new2 w8 w.heap.size hz8 4 20 #[.int .u8 4, .int .u8 20] rfl; have so9 := own_sl ho9; have hown8' := own_later_ hown8 b9; have hb9 := hb8.trans (b9.mono hz8); have hz9 := hb9.size; clear hown8 ho9 b9 hb8 hz8) | (at_builtin; refine wlv_append Tryd.elem8 rfl _ _ rfl w.heap.size _ (2 + (2 + 5 + 2)) (([48, 9] ++ ([6, 5] ++ [0x2b, 0x0e, 0x03, 0x02, 0x1a] ++ [5, 0]) : List (BitVec 8)).map W8) rfl hown8' (some ⟨w8.heap.size, 0, none⟩) 2 2 _ rfl (fun x => by cases x) _ so9 (ones8 [4, 20]) (by decide) (by assumption) ?_; intro v10 w10 hown10 hgr10; have hb10 := hb9.grown hgr10 (by assumption) (fun q hq => (hown8'.lt q hq).1); rw [← List.map_append] at hown10; obtain ⟨A10, c10, rfl⟩ := own_slice hown10; have hz10 := hb10.size; have so11 := HS.out.below hb10; clear e9 hown8' so9 hb9 hgr10 hz9) | (at_builtin; refine wlv_append Tryd.elem8 rfl _ _ rfl w.heap.size _ (2 + (2 + 5 + 2) + 2) (([48, 9] ++ ([6, 5] ++ [0x2b, 0x0e, 0x03, 0x02, 0x1a] ++ [5, 0]) ++ [4, 20] : List (BitVec 8)).map W8) rfl hown10 A 20 c _ rfl HZ.out _ so11 (ones8 hash) (by decide) (by assumption) ?_; intro v12 w12 hown12 hgr12; have hb12 := hb10.grown hgr12 (by assumption) (fun q hq => (hown10.lt q hq).1); rw [← List.map_append] at hown12; obtain ⟨A12, c12, rfl⟩ := own_slice hown12; have hz12 := hb12.size; clear hown10 so11 hb10 hgr12 hz10; obtain ⟨W13, e13, ho13, b13⟩ := new2 w12 w.heap.size hz12 48 33 #[.int .u8 48, .int .u8 33] rfl; obtain ⟨_, _, ee, so13, zo13⟩ := own_pc (own_later_ hown12 b13); obtain ⟨rfl, rfl⟩ : A12 = _ ∧ c12 = _ := (by injection ee with a b c; exact ⟨a, c⟩); have hb13 := hb12.trans (b13.mono hz12); have hz13 := hb13.size; clear ee hown12 b13 hb12 hz12) | (at_builtin; refine wlv_append Tryd.elem8 rfl _ _ rfl w.heap.size _ 2 (([48, 33] : List (BitVec 8)).map W8) rfl ho13 A12 (2 + (2 + 5 + 2) + 2 + 20) c12 _ rfl zo13 _ so13 (ones8 _) (by decide) (by assumption) ?_; intro v14 w14 hown14 hgr14; have hb14 := hb13.grown hgr14 (by assumption) (fun q hq => (ho13.lt q hq).1); rw [← List.map_append] at hown14; have hfin := HFT.out; rw [hfin] at hown14; have HF := Lib.hid (FreshV.of_own hown14); have HB14 := Lib.hid hb14; clear hown14 hb14 hfin ho13 so13 zo13 hb13 hgr14 hz13 e13))
  go_ret2
  exact ⟨_, rfl, HF.out, HB14.out⟩
set_option maxRecDepth 100000 in
set_option maxHeartbeats 4000000 in
theorem rinfo_2 (w : World) (B : Nat) (A : Option Addr) (c : Nat) (hash : List (BitVec 8)) (hs : SlV w B A 28 c (hash.map W8)) (hz : A = none → c = 0) (hB : B ≤ w.heap.size) :
    Calls Tryd.prog 19 #[.int .i64 2, .slice A 28 c] w fun e w' => ∃ v, e = .returned (.tuple #[v, .bool true]) ∧ FreshV w' w.heap.size v (infoL 2 hash) ∧ Below w.heap.size w w' := by
  have hsz : ∀ V, Calls Tryd.prog 45 #[.int .i64 2] V fun e w' => e = .returned (.int .i64 28) ∧ V = w' := fun V => rsize_any V 2
  have hl : hash.length = 28 := by simpa using hs.len.symm
  have HSZ := Lib.hid hsz
  have HL := Lib.hid hl
  have HS := Lib.hid ((hs.more hB))
  have HZ := Lib.hid hz
  obtain ⟨W1, e1, r1, b1, z1⟩ := newV w 5 (([0x60, 0x86, 0x48, 0x01, 0x65, 0x03, 0x04, 0x02, 0] : List (BitVec 8)).map W8) #[.int .u8 96, .int .u8 134, .int .u8 72, .int .u8 1, .int .u8 101, .int .u8 3, .int .u8 4, .int .u8 2, .int .u8 0] rfl
  clear hsz hl hs hz hB z1
  have c8 : W1.cell? ⟨w.heap.size, 8, none⟩ = some (.int .u8 0) := r1.at_ rfl
  have f8 := r1.frozen 8
  have r2 := r1.set 8 (W8 4)
  have hb2 := below_setV b1 (Nat.le_refl w.heap.size) 8 (W8 4)
  obtain ⟨W2, e2⟩ : ∃ W, W1.setCell ⟨w.heap.size, 8, none⟩ (.int .u8 4) = W := ⟨_, rfl⟩
  rw [show W8 4 = .int .u8 4 from rfl, e2] at r2 hb2
  have so : SlV W2 W2.heap.size (some ⟨w.heap.size, 0, none⟩) 9 9 ((sha2L 4).map W8) := r2.sl (by decide)
  clear r1 r2 b1
  obtain ⟨W3, e3, ho3, b3⟩ := new2 W2 w.heap.size hb2.size 6 9 #[.int .u8 6, .int .u8 9] rfl
  have so3 := (so.below b3).more b3.size
  have hb3 := hb2.trans (b3.mono hb2.size)
  have hz3 := hb3.size
  have hfinT : [48, 45] ++ ([48, 13] ++ ([6, 9] ++ sha2L 4 ++ [5, 0]) ++ [4, 28] ++ hash) = infoL 2 hash := by
    have e : (elemL 0x30 (elemL 6 (oidL 2) ++ elemL 5 []) ++ elemL 4 hash).length = 45 := by simp [elemL, oidL, sha2L, HL.out]
    rw [infoL, elemL, e]
    simp [elemL, oidL, sha2L, HL.out]
  have HFT := Lib.hid hfinT
  clear hfinT
  go_enter Tryd.func19, Tryd.ntmps19
  go_wp2_with fail
  refine (HSZ.out _).mono ?_
  rintro e w' ⟨rfl, rfl⟩
  go_wp2_with fail
  refine (HSZ.out _).mono ?_
  rintro e w' ⟨rfl, rfl⟩
  go_wp2_with (first | (at_builtin; refine wlv_append Tryd.elem8 rfl _ _ rfl w.heap.size _ 2 (([6, 9] : List (BitVec 8)).map W8) rfl ho3 (some ⟨w.heap.size, 0, none⟩) 9 9 _ rfl (fun x => by cases x) _ so3 (ones8 (sha2L 4)) (by decide) (by assumption) ?_; intro v4 w4 hown4 hgr4; have hb4 := hb3.grown hgr4 (by assumption) (fun q hq => (ho3.lt q hq).1); rw [← List.map_append] at hown4; obtain ⟨A4, c4, rfl⟩ := own_slice hown4; have hz4 := hb4.size; clear e1 e2 e3 ho3 so so3 b3 hb3 hgr4 hz3 hb2; obtain ⟨W5, e5, ho5, b5⟩ := new2 w4 w.heap.size hz4 5 0 #[.int .u8 5, .int .u8 0] rfl; have so5 := own_sl ho5; have hown4' := own_later_ hown4 b5; have hb5 := hb4.trans (b5.mono hz4); have hz5 := hb5.size; clear hown4 ho5 b5 hb4 hz4) | (at_builtin; refine wlv_append Tryd.elem8 rfl _ _ rfl w.heap.size _ (2 + 9) (([6, 9] ++ sha2L 4 : List (BitVec 8)).map W8) rfl hown4' (some ⟨w4.heap.size, 0, none⟩) 2 2 _ rfl (fun x => by cases x) _ so5 (ones8 [5, 0]) (by decide) (by assumption) ?_; intro v6 w6 hown6 hgr6; have hb6 := hb5.grown hgr6 (by assumption) (fun q hq => (hown4'.lt q hq).1); rw [← List.map_append] at hown6; obtain ⟨A6, c6, rfl⟩ := own_slice hown6; have hz6 := hb6.size; clear e5 hown4' so5 hb5 hgr6 hz5; obtain ⟨W7, e7, ho7, b7⟩ := new2 w6 w.heap.size hz6 48 13 #[.int .u8 48, .int .u8 13] rfl; obtain ⟨_, _, ee, so7, zo7⟩ := own_pc (own_later_ hown6 b7); obtain ⟨rfl, rfl⟩ : A6 = _ ∧ c6 = _ := (by injection ee with a b c; exact ⟨a, c⟩); have hb7 := hb6.trans (b7.mono hz6); have hz7 := hb7.size; clear ee hown6 b7 hb6 hz6) | (at_builtin; refine wlv_append Tryd.elem8 rfl _ _ rfl w.heap.size _ 2 (([48, 13] : List (BitVec 8)).map W8) rfl ho7 A6 (2 + 9 + 2) c6 _ rfl zo7 _ so7 (ones8 _) (by decide) (by assumption) ?_; intro v8 w8 hown8 hgr8; have hb8 := hb7.grown hgr8 (by assumption) (fun q hq => (ho7.lt q hq).1); rw [← List.map_append] at hown8; obtain ⟨A8, c8', rfl⟩ := own_slice hown8; have hz8 := hb8.size; clear e7 ho7 so7 zo7 hb7 hgr8 hz7; obtain ⟨W9, e9, ho9, b9⟩ := new2 w8 w.heap.size hz8 4 28 #[.int .u8 4, .int .u8 28] rfl; have so9 := own_sl ho9; have hown8' := own_later_ hown8 b9; have hb9 := hb8.trans (b9.mono hz8); have hz9 := hb9.size; clear hown8 ho9 b9 hb8 hz8) | (at_builtin; refine wlv_append Tryd.elem8 rfl _ _ rfl w.heap.size _ (2 + (2 + 9 + 2)) (([48, 13] ++ ([6, 9] ++ sha2L 4 ++ [5, 0]) : List (BitVec 8)).map W8) rfl hown8' (some ⟨w8.heap.size, 0, none⟩) 2 2 _ rfl (fun x => by cases x) _ so9 (ones8 [4, 28]) (by decide) (by assumption) ?_; intro v10 w10 hown10 hgr10; have hb10 := hb9.grown hgr10 (by assumption) (fun q hq => (hown8'.lt q hq).1); rw [← List.map_append] at hown10; obtain ⟨A10, c10, rfl⟩ := own_slice hown10; have hz10 := hb10.size; have so11 := HS.out.below hb10; clear e9 hown8' so9 hb9 hgr10 hz9) | (at_builtin; refine wlv_append Tryd.elem8 rfl _ _ rfl w.heap.size _ (2 + (2 + 9 + 2) + 2) (([48, 13] ++ ([6, 9] ++ sha2L 4 ++ [5, 0]) ++ [4, 28] : List (BitVec 8)).map W8) rfl hown10 A 28 c _ rfl HZ.out _ so11 (ones8 hash) (by decide) (by assumption) ?_; intro v12 w12 hown12 hgr12; have hb12 := hb10.grown hgr12 (by assumption) (fun q hq => (hown10.lt q hq).1); rw [← List.map_append] at hown12; obtain ⟨A12, c12, rfl⟩ := own_slice hown12; have hz12 := hb12.size; clear hown10 so11 hb10 hgr12 hz10; obtain ⟨W13, e13, ho13, b13⟩ := new2 w12 w.heap.size hz12 48 45 #[.int .u8 48, .int .u8 45] rfl; obtain ⟨_, _, ee, so13, zo13⟩ := own_pc (own_later_ hown12 b13); obtain ⟨rfl, rfl⟩ : A12 = _ ∧ c12 = _ := (by injection ee with a b c; exact ⟨a, c⟩); have hb13 := hb12.trans (b13.mono hz12); have hz13 := hb13.size; clear ee hown12 b13 hb12 hz12) | (at_builtin; refine wlv_append Tryd.elem8 rfl _ _ rfl w.heap.size _ 2 (([48, 45] : List (BitVec 8)).map W8) rfl ho13 A12 (2 + (2 + 9 + 2) + 2 + 28) c12 _ rfl zo13 _ so13 (ones8 _) (by decide) (by assumption) ?_; intro v14 w14 hown14 hgr14; have hb14 := hb13.grown hgr14 (by assumption) (fun q hq => (ho13.lt q hq).1); rw [← List.map_append] at hown14; have hfin := HFT.out; rw [hfin] at hown14; have HF := Lib.hid (FreshV.of_own hown14); have HB14 := Lib.hid hb14; clear hown14 hb14 hfin ho13 so13 zo13 hb13 hgr14 hz13 e13))
  go_ret2
  exact ⟨_, rfl, HF.out, HB14.out⟩
set_option maxRecDepth 100000 in
set_option maxHeartbeats 4000000 in
theorem rinfo_3 (w : World) (B : Nat) (A : Option Addr) (c : Nat) (hash : List (BitVec 8)) (hs : SlV w B A 32 c (hash.map W8)) (hz : A = none → c = 0) (hB : B ≤ w.heap.size) :
    Calls Tryd.prog 19 #[.int .i64 3, .slice A 32 c] w fun e w' => ∃ v, e = .returned (.tuple #[v, .bool true]) ∧ FreshV w' w.heap.size v (infoL 3 hash) ∧ Below w.heap.size w w' := by
  have hsz : ∀ V, Calls Tryd.prog 45 #[.int .i64 3] V fun e w' => e = .returned (.int .i64 32) ∧ V = w' := fun V => rsize_any V 3
  have hl : hash.length = 32 := by simpa using hs.len.symm
  have HSZ := Lib.hid hsz
  have HL := Lib.hid hl
  have HS := Lib.hid ((hs.more hB))
  have HZ := Lib.hid hz
  obtain ⟨W1, e1, r1, b1, z1⟩ := newV w 5 (([0x60, 0x86, 0x48, 0x01, 0x65, 0x03, 0x04, 0x02, 0] : List (BitVec 8)).map W8) #[.int .u8 96, .int .u8 134, .int .u8 72, .int .u8 1, .int .u8 101, .int .u8 3, .int .u8 4, .int .u8 2, .int .u8 0] rfl
  clear hsz hl hs hz hB z1
  have c8 : W1.cell? ⟨w.heap.size, 8, none⟩ = some (.int .u8 0) := r1.at_ rfl
  have f8 := r1.frozen 8
  have r2 := r1.set 8 (W8 1)
  have hb2 := below_setV b1 (Nat.le_refl w.heap.size) 8 (W8 1)
  obtain ⟨W2, e2⟩ : ∃ W, W1.setCell ⟨w.heap.size, 8, none⟩ (.int .u8 1) = W := ⟨_, rfl⟩
  rw [show W8 1 = .int .u8 1 from rfl, e2] at r2 hb2
  have so : SlV W2 W2.heap.size (some ⟨w.heap.size, 0, none⟩) 9 9 ((sha2L 1).map W8) := r2.sl (by decide)
  clear r1 r2 b1
  obtain ⟨W3, e3, ho3, b3⟩ := new2 W2 w.heap.size hb2.size 6 9 #[.int .u8 6, .int .u8 9] rfl
  have so3 := (so.below b3).more b3.size
  have hb3 := hb2.trans (b3.mono hb2.size)
  have hz3 := hb3.size
  have hfinT : [48, 49] ++ ([48, 13] ++ ([6, 9] ++ sha2L 1 ++ [5, 0]) ++ [4, 32] ++ hash) = infoL 3 hash := by
    have e : (elemL 0x30 (elemL 6 (oidL 3) ++ elemL 5 []) ++ elemL 4 hash).length = 49 := by simp [elemL, oidL, sha2L, HL.out]
    rw [infoL, elemL, e]
    simp [elemL, oidL, sha2L, HL.out]
  have HFT := Lib.hid hfinT
  clear hfinT
  go_enter Tryd.func19, Tryd.ntmps19
  go_wp2_with fail
  refine (HSZ.out _).mono ?_
  rintro e w' ⟨rfl, rfl⟩
  go_wp2_with fail
  refine (HSZ.out _).mono ?_
  rintro e w' ⟨rfl, rfl⟩
  go_wp2_with (first | (at_builtin; refine wlv_append Tryd.elem8 rfl _ _ rfl w.heap.size _ 2 (([6, 9] : List (BitVec 8)).map W8) rfl ho3 (some ⟨w.heap.size, 0, none⟩) 9 9 _ rfl (fun x => by cases x) _ so3 (ones8 (sha2L 1)) (by decide) (by assumption) ?_; intro v4 w4 hown4 hgr4; have hb4 := hb3.grown hgr4 (by assumption) (fun q hq => (ho3.lt q hq).1); rw [← List.map_append] at hown4; obtain ⟨A4, c4, rfl⟩ := own_slice hown4; have hz4 := hb4.size; clear e1 e2 e3 ho3 so so3 b3 hb3 hgr4 hz3 hb2; obtain ⟨W5, e5, ho5, b5⟩ := new2 w4 w.heap.size hz4 5 0 #[.int .u8 5, .int .u8 0] rfl; have so5 := own_sl ho5; have hown4' := own_later_ hown4 b5; have hb5 := hb4.trans (b5.mono hz4); have hz5 := hb5.size; clear hown4 ho5 b5 hb4 hz4) | (at_builtin; refine wlv_append Tryd.elem8 rfl _ _ rfl w.heap.size _ (2 + 9) (([6, 9] ++ sha2L 1 : List (BitVec 8)).map W8) rfl hown4' (some ⟨w4.heap.size, 0, none⟩) 2 2 _ rfl (fun x => by cases x) _ so5 (ones8 [5, 0]) (by decide) (by assumption) ?_; intro v6 w6 hown6 hgr6; have hb6 := hb5.grown hgr6 (by assumption) (fun q hq => (hown4'.lt q hq).1); rw [← List.map_append] at hown6; obtain ⟨A6, c6, rfl⟩ := own_slice hown6; have hz6 := hb6.size; clear e5 hown4' so5 hb5 hgr6 hz5; obtain ⟨W7, e7, ho7, b7⟩ := new2 w6 w.heap.size hz6 48 13 #[.int .u8 48, .int .u8 13] rfl; obtain ⟨_, _, ee, so7, zo7⟩ := own_pc (own_later_ hown6 b7); obtain ⟨rfl, rfl⟩ : A6 = _ ∧ c6 = _ := (by injection ee with a b c; exact ⟨a, c⟩); have hb7 := hb6.trans (b7.mono hz6); have hz7 := hb7.size; clear ee hown6 b7 hb6 hz6) | (at_builtin; refine wlv_append Tryd.elem8 rfl _ _ rfl w.heap.size _ 2 (([48, 13] : List (BitVec 8)).map W8) rfl ho7 A6 (2 + 9 + 2) c6 _ rfl zo7 _ so7 (ones8 _) (by decide) (by assumption) ?_; intro v8 w8 hown8 hgr8; have hb8 := hb7.grown hgr8 (by assumption) (fun q hq => (ho7.lt q hq).1); rw [← List.map_append] at hown8; obtain ⟨A8, c8', rfl⟩ := own_slice hown8; have hz8 := hb8.size; clear e7 ho7 so7 zo7 hb7 hgr8 hz7; obtain ⟨W9, e9, ho9, b9⟩ := new2 w8 w.heap.size hz8 4 32 #[.int .u8 4, .int .u8 32] rfl; have so9 := own_sl ho9; have hown8' := own_later_ hown8 b9; have hb9 := hb8.trans (b9.mono hz8); have hz9 := hb9.size; clear hown8 ho9 b9 hb8 hz8) | (at_builtin; refine wlv_append Tryd.elem8 rfl _ _ rfl w.heap.size _ (2 + (2 + 9 + 2)) (([48, 13] ++ ([6, 9] ++ sha2L 1 ++ [5, 0]) : List (BitVec 8)).map W8) rfl hown8' (some ⟨w8.heap.size, 0, none⟩) 2 2 _ rfl (fun x => by cases x) _ so9 (ones8 [4, 32]) (by decide) (by assumption) ?_; intro v10 w10 hown10 hgr10; have hb10 := hb9.grown hgr10 (by assumption) (fun q hq => (hown8'.lt q hq).1); rw [← List.map_append] at hown10; obtain ⟨A10, c10, rfl⟩ := own_slice hown10; have hz10 := hb10.size; have so11 := HS.out.below hb10; clear e9 hown8' so9 hb9 hgr10 hz9) | (at_builtin; refine wlv_append Tryd.elem8 rfl _ _ rfl w.heap.size _ (2 + (2 + 9 + 2) + 2) (([48, 13] ++ ([6, 9] ++ sha2L 1 ++ [5, 0]) ++ [4, 32] : List (BitVec 8)).map W8) rfl hown10 A 32 c _ rfl HZ.out _ so11 (ones8 hash) (by decide) (by assumption) ?_; intro v12 w12 hown12 hgr12; have hb12 := hb10.grown hgr12 (by assumption) (fun q hq => (hown10.lt q hq).1); rw [← List.map_append] at hown12; obtain ⟨A12, c12, rfl⟩ := own_slice hown12; have hz12 := hb12.size; clear hown10 so11 hb10 hgr12 hz10; obtain ⟨W13, e13, ho13, b13⟩ := new2 w12 w.heap.size hz12 48 49 #[.int .u8 48, .int .u8 49] rfl; obtain ⟨_, _, ee, so13, zo13⟩ := own_pc (own_later_ hown12 b13); obtain ⟨rfl, rfl⟩ : A12 = _ ∧ c12 = _ := (by injection ee with a b c; exact ⟨a, c⟩); have hb13 := hb12.trans (b13.mono hz12); have hz13 := hb13.size; clear ee hown12 b13 hb12 hz12) | (at_builtin; refine wlv_append Tryd.elem8 rfl _ _ rfl w.heap.size _ 2 (([48, 49] : List (BitVec 8)).map W8) rfl ho13 A12 (2 + (2 + 9 + 2) + 2 + 32) c12 _ rfl zo13 _ so13 (ones8 _) (by decide) (by assumption) ?_; intro v14 w14 hown14 hgr14; have hb14 := hb13.grown hgr14 (by assumption) (fun q hq => (ho13.lt q hq).1); rw [← List.map_append] at hown14; have hfin := HFT.out; rw [hfin] at hown14; have HF := Lib.hid (FreshV.of_own hown14); have HB14 := Lib.hid hb14; clear hown14 hb14 hfin ho13 so13 zo13 hb13 hgr14 hz13 e13))
  go_ret2
  exact ⟨_, rfl, HF.out, HB14.out⟩
set_option maxRecDepth 100000 in
set_option maxHeartbeats 4000000 in
theorem rinfo_4 (w : World) (B : Nat) (A : Option Addr) (c : Nat) (hash : List (BitVec 8)) (hs : SlV w B A 48 c (hash.map W8)) (hz : A = none → c = 0) (hB : B ≤ w.heap.size) :
    Calls Tryd.prog 19 #[.int .i64 4, .slice A 48 c] w fun e w' => ∃ v, e = .returned (.tuple #[v, .bool true]) ∧ FreshV w' w.heap.size v (infoL 4 hash) ∧ Below w.heap.size w w' := by
  have hsz : ∀ V, Calls Tryd.prog 45 #[.int .i64 4] V fun e w' => e = .returned (.int .i64 48) ∧ V = w' := fun V => rsize_any V 4
  have hl : hash.length = 48 := by simpa using hs.len.symm
  have HSZ := Lib.hid hsz
  have HL := Lib.hid hl
  have HS := Lib.hid ((hs.more hB))
  have HZ := Lib.hid hz
  obtain ⟨W1, e1, r1, b1, z1⟩ := newV w 5 (([0x60, 0x86, 0x48, 0x01, 0x65, 0x03, 0x04, 0x02, 0] : List (BitVec 8)).map W8) #[.int .u8 96, .int .u8 134, .int .u8 72, .int .u8 1, .int .u8 101, .int .u8 3, .int .u8 4, .int .u8 2, .int .u8 0] rfl
  clear hsz hl hs hz hB z1
  have c8 : W1.cell? ⟨w.heap.size, 8, none⟩ = some (.int .u8 0) := r1.at_ rfl
  have f8 := r1.frozen 8
  have r2 := r1.set 8 (W8 2)
  have hb2 := below_setV b1 (Nat.le_refl w.heap.size) 8 (W8 2)
  obtain ⟨W2, e2⟩ : ∃ W, W1.setCell ⟨w.heap.size, 8, none⟩ (.int .u8 2) = W := ⟨_, rfl⟩
  rw [show W8 2 = .int .u8 2 from rfl, e2] at r2 hb2
  have so : SlV W2 W2.heap.size (some ⟨w.heap.size, 0, none⟩) 9 9 ((sha2L 2).map W8) := r2.sl (by decide)
  clear r1 r2 b1
  obtain ⟨W3, e3, ho3, b3⟩ := new2 W2 w.heap.size hb2.size 6 9 #[.int .u8 6, .int .u8 9] rfl
  have so3 := (so.below b3).more b3.size
  have hb3 := hb2.trans (b3.mono hb2.size)
  have hz3 := hb3.size
  have hfinT : [48, 65] ++ ([48, 13] ++ ([6, 9] ++ sha2L 2 ++ [5, 0]) ++ [4, 48] ++ hash) = infoL 4 hash := by
    have e : (elemL 0x30 (elemL 6 (oidL 4) ++ elemL 5 []) ++ elemL 4 hash).length = 65 := by simp [elemL, oidL, sha2L, HL.out]
    rw [infoL, elemL, e]
    simp [elemL, oidL, sha2L, HL.out]
  have HFT := Lib.hid hfinT
  clear hfinT
  go_enter Tryd.func19, Tryd.ntmps19
  go_wp2_with fail
  refine (HSZ.out _).mono ?_
  rintro e w' ⟨rfl, rfl⟩
  go_wp2_with fail
  refine (HSZ.out _).mono ?_
  rintro e w' ⟨rfl, rfl⟩
  go_wp2_with (first | (at_builtin; refine wlv_append Tryd.elem8 rfl _ _ rfl w.heap.size _ 2 (([6, 9] : List (BitVec 8)).map W8) rfl ho3 (some ⟨w.heap.size, 0, none⟩) 9 9 _ rfl (fun x => by cases x) _ so3 (ones8 (sha2L 2)) (by decide) (by assumption) ?_; intro v4 w4 hown4 hgr4; have hb4 := hb3.grown hgr4 (by assumption) (fun q hq => (ho3.lt q hq).1); rw [← List.map_append] at hown4; obtain ⟨A4, c4, rfl⟩ := own_slice hown4; have hz4 := hb4.size; clear e1 e2 e3 ho3 so so3 b3 hb3 hgr4 hz3 hb2; obtain ⟨W5, e5, ho5, b5⟩ := new2 w4 w.heap.size hz4 5 0 #[.int .u8 5, .int .u8 0] rfl; have so5 := own_sl ho5; have hown4' := own_later_ hown4 b5; have hb5 := hb4.trans (b5.mono hz4); have hz5 := hb5.size; clear hown4 ho5 b5 hb4 hz4) | (at_builtin; refine wlv_append Tryd.elem8 rfl _ _ rfl w.heap.size _ (2 + 9) (([6, 9] ++ sha2L 2 : List (BitVec 8)).map W8) rfl hown4' (some ⟨w4.heap.size, 0, none⟩) 2 2 _ rfl (fun x => by cases x) _ so5 (ones8 [5, 0]) (by decide) (by assumption) ?_; intro v6 w6 hown6 hgr6; have hb6 := hb5.grown hgr6 (by assumption) (fun q hq => (hown4'.lt q hq).1); rw [← List.map_append] at hown6; obtain ⟨A6, c6, rfl⟩ := own_slice hown6; have hz6 := hb6.size; clear e5 hown4' so5 hb5 hgr6 hz5; obtain ⟨W7, e7, ho7, b7⟩ := new2 w6 w.heap.size hz6 48 13 #[.int .u8 48, .int .u8 13] rfl; obtain ⟨_, _, ee, so7, zo7⟩ := own_pc (own_later_ hown6 b7); obtain ⟨rfl, rfl⟩ : A6 = _ ∧ c6 = _ := (by injection ee with a b c; exact ⟨a, c⟩); have hb7 := hb6.trans (b7.mono hz6); have hz7 := hb7.size; clear ee hown6 b7 hb6 hz6) | (at_builtin; refine wlv_append Tryd.elem8 rfl _ _ rfl w.heap.size _ 2 (([48, 13] : List (BitVec 8)).map W8) rfl ho7 A6 (2 + 9 + 2) c6 _ rfl zo7 _ so7 (ones8 _) (by decide) (by assumption) ?_; intro v8 w8 hown8 hgr8; have hb8 := hb7.grown hgr8 (by assumption) (fun q hq => (ho7.lt q hq).1); rw [← List.map_append] at hown8; obtain ⟨A8, c8', rfl⟩ := own_slice hown8; have hz8 := hb8.size; clear e7 ho7 so7 zo7 hb7 hgr8 hz7; obtain ⟨W9, e9, ho9, b9⟩ := new2 w8 w.heap.size hz8 4 48 #[.int .u8 4, .int .u8 48] rfl; have so9 := own_sl ho9; have hown8' := own_later_ hown8 b9; have hb9 := hb8.trans (b9.mono hz8); have hz9 := hb9.size; clear hown8 ho9 b9 hb8 hz8) | (at_builtin; refine wlv_append Tryd.elem8 rfl _ _ rfl w.heap.size _ (2 + (2 + 9 + 2)) (([48, 13] ++ ([6, 9] ++ sha2L 2 ++ [5, 0]) : List (BitVec 8)).map W8) rfl hown8' (some ⟨w8.heap.size, 0, none⟩) 2 2 _ rfl (fun x => by cases x) _ so9 (ones8 [4, 48]) (by decide) (by assumption) ?_; intro v10 w10 hown10 hgr10; have hb10 := hb9.grown hgr10 (by assumption) (fun q hq => (hown8'.lt q hq).1); rw [← List.map_append] at hown10; obtain ⟨A10, c10, rfl⟩ := own_slice hown10; have hz10 := hb10.size; have so11 := HS.out.below hb10; clear e9 hown8' so9 hb9 hgr10 hz9) | (at_builtin; refine wlv_append Tryd.elem8 rfl _ _ rfl w.heap.size _ (2 + (2 + 9 + 2) + 2) (([48, 13] ++ ([6, 9] ++ sha2L 2 ++ [5, 0]) ++ [4, 48] : List (BitVec 8)).map W8) rfl hown10 A 48 c _ rfl HZ.out _ so11 (ones8 hash) (by decide) (by assumption) ?_; intro v12 w12 hown12 hgr12; have hb12 := hb10.grown hgr12 (by assumption) (fun q hq => (hown10.lt q hq).1); rw [← List.map_append] at hown12; obtain ⟨A12, c12, rfl⟩ := own_slice hown12; have hz12 := hb12.size; clear hown10 so11 hb10 hgr12 hz10; obtain ⟨W13, e13, ho13, b13⟩ := new2 w12 w.heap.size hz12 48 65 #[.int .u8 48, .int .u8 65] rfl; obtain ⟨_, _, ee, so13, zo13⟩ := own_pc (own_later_ hown12 b13); obtain ⟨rfl, rfl⟩ : A12 = _ ∧ c12 = _ := (by injection ee with a b c; exact ⟨a, c⟩); have hb13 := hb12.trans (b13.mono hz12); have hz13 := hb13.size; clear ee hown12 b13 hb12 hz12) | (at_builtin; refine wlv_append Tryd.elem8 rfl _ _ rfl w.heap.size _ 2 (([48, 65] : List (BitVec 8)).map W8) rfl ho13 A12 (2 + (2 + 9 + 2) + 2 + 48) c12 _ rfl zo13 _ so13 (ones8 _) (by decide) (by assumption) ?_; intro v14 w14 hown14 hgr14; have hb14 := hb13.grown hgr14 (by assumption) (fun q hq => (ho13.lt q hq).1); rw [← List.map_append] at hown14; have hfin := HFT.out; rw [hfin] at hown14; have HF := Lib.hid (FreshV.of_own hown14); have HB14 := Lib.hid hb14; clear hown14 hb14 hfin ho13 so13 zo13 hb13 hgr14 hz13 e13))
  go_ret2
  exact ⟨_, rfl, HF.out, HB14.out⟩
set_option maxRecDepth 100000 in
set_option maxHeartbeats 4000000 in
theorem rinfo_5 (w : World) (B : Nat) (A : Option Addr) (c : Nat) (hash : List (BitVec 8)) (hs : SlV w B A 64 c (hash.map W8)) (hz : A = none → c = 0) (hB : B ≤ w.heap.size) :
    Calls Tryd.prog 19 #[.int .i64 5, .slice A 64 c] w fun e w' => ∃ v, e = .returned (.tuple #[v, .bool true]) ∧ FreshV w' w.heap.size v (infoL 5 hash) ∧ Below w.heap.size w w' := by
  have hsz : ∀ V, Calls Tryd.prog 45 #[.int .i64 5] V fun e w' => e = .returned (.int .i64 64) ∧ V = w' := fun V => rsize_any V 5
  have hl : hash.length = 64 := by simpa using hs.len.symm
  have HSZ := Lib.hid hsz
  have HL := Lib.hid hl
  have HS := Lib.hid ((hs.more hB))
  have HZ := Lib.hid hz
  obtain ⟨W1, e1, r1, b1, z1⟩ := newV w 5 (([0x60, 0x86, 0x48, 0x01, 0x65, 0x03, 0x04, 0x02, 0] : List (BitVec 8)).map W8) #[.int .u8 96, .int .u8 134, .int .u8 72, .int .u8 1, .int .u8 101, .int .u8 3, .int .u8 4, .int .u8 2, .int .u8 0] rfl
  clear hsz hl hs hz hB z1
  have c8 : W1.cell? ⟨w.heap.size, 8, none⟩ = some (.int .u8 0) := r1.at_ rfl
  have f8 := r1.frozen 8
  have r2 := r1.set 8 (W8 3)
  have hb2 := below_setV b1 (Nat.le_refl w.heap.size) 8 (W8 3)
  obtain ⟨W2, e2⟩ : ∃ W, W1.setCell ⟨w.heap.size, 8, none⟩ (.int .u8 3) = W := ⟨_, rfl⟩
  rw [show W8 3 = .int .u8 3 from rfl, e2] at r2 hb2
  have so : SlV W2 W2.heap.size (some ⟨w.heap.size, 0, none⟩) 9 9 ((sha2L 3).map W8) := r2.sl (by decide)
  clear r1 r2 b1
  obtain ⟨W3, e3, ho3, b3⟩ := new2 W2 w.heap.size hb2.size 6 9 #[.int .u8 6, .int .u8 9] rfl
  have so3 := (so.below b3).more b3.size
  have hb3 := hb2.trans (b3.mono hb2.size)
  have hz3 := hb3.size
  have hfinT : [48, 81] ++ ([48, 13] ++ ([6, 9] ++ sha2L 3 ++ [5, 0]) ++ [4, 64] ++ hash) = infoL 5 hash := by
    have e : (elemL 0x30 (elemL 6 (oidL 5) ++ elemL 5 []) ++ elemL 4 hash).length = 81 := by simp [elemL, oidL, sha2L, HL.out]
    rw [infoL, elemL, e]
    simp [elemL, oidL, sha2L, HL.out]
  have HFT := Lib.hid hfinT
  clear hfinT
  go_enter Tryd.func19, Tryd.ntmps19
  go_wp2_with fail
  refine (HSZ.out _).mono ?_
  rintro e w' ⟨rfl, rfl⟩
  go_wp2_with fail
  refine (HSZ.out _).mono ?_
  rintro e w' ⟨rfl, rfl⟩
  go_wp2_with (first | (at_builtin; refine wlv_append Tryd.elem8 rfl _ _ rfl w.heap.size _ 2 (([6, 9] : List (BitVec 8)).map W8) rfl ho3 (some ⟨w.heap.size, 0, none⟩) 9 9 _ rfl (fun x => by cases x) _ so3 (ones8 (sha2L 3)) (by decide) (by assumption) ?_; intro v4 w4 hown4 hgr4; have hb4 := hb3.grown hgr4 (by assumption) (fun q hq => (ho3.lt q hq).1); rw [← List.map_append] at hown4; obtain ⟨A4, c4, rfl⟩ := own_slice hown4; have hz4 := hb4.size; clear e1 e2 e3 ho3 so so3 b3 hb3 hgr4 hz3 hb2; obtain ⟨W5, e5, ho5, b5⟩ := new2 w4 w.heap.size hz4 5 0 #[.int .u8 5, .int .u8 0] rfl; have so5 := own_sl ho5; have hown4' := own_later_ hown4 b5; have hb5 := hb4.trans (b5.mono hz4); have hz5 := hb5.size; clear hown4 ho5 b5 hb4 hz4) | (at_builtin; refine wlv_append Tryd.elem8 rfl _ _ rfl w.heap.size _ (2 + 9) (([6, 9] ++ sha2L 3 : List (BitVec 8)).map W8) rfl hown4' (some ⟨w4.heap.size, 0, none⟩) 2 2 _ rfl (fun x => by cases x) _ so5 (ones8 [5, 0]) (by decide) (by assumption) ?_; intro v6 w6 hown6 hgr6; have hb6 := hb5.grown hgr6 (by assumption) (fun q hq => (hown4'.lt q hq).1); rw [← List.map_append] at hown6; obtain ⟨A6, c6, rfl⟩ := own_slice hown6; have hz6 := hb6.size; clear e5 hown4' so5 hb5 hgr6 hz5; obtain ⟨W7, e7, ho7, b7⟩ := new2 w6 w.heap.size hz6 48 13 #[.int .u8 48, .int .u8 13] rfl; obtain ⟨_, _, ee, so7, zo7⟩ := own_pc (own_later_ hown6 b7); obtain ⟨rfl, rfl⟩ : A6 = _ ∧ c6 = _ := (by injection ee with a b c; exact ⟨a, c⟩); have hb7 := hb6.trans (b7.mono hz6); have hz7 := hb7.size; clear ee hown6 b7 hb6 hz6) | (at_builtin; refine wlv_append Tryd.elem8 rfl _ _ rfl w.heap.size _ 2 (([48, 13] : List (BitVec 8)).map W8) rfl ho7 A6 (2 + 9 + 2) c6 _ rfl zo7 _ so7 (ones8 _) (by decide) (by assumption) ?_; intro v8 w8 hown8 hgr8; have hb8 := hb7.grown hgr8 (by assumption) (fun q hq => (ho7.lt q hq).1); rw [← List.map_append] at hown8; obtain ⟨A8, c8', rfl⟩ := own_slice hown8; have hz8 := hb8.size; clear e7 ho7 so7 zo7 hb7 hgr8 hz7; obtain ⟨W9, e9, ho9, b9⟩ := new2 w8 w.heap.size hz8 4 64 #[.int .u8 4, .int .u8 64] rfl; have so9 := own_sl ho9; have hown8' := own_later_ hown8 b9; have hb9 := hb8.trans (b9.mono hz8); have hz9 := hb9.size; clear hown8 ho9 b9 hb8 hz8) | (at_builtin; refine wlv_append Tryd.elem8 rfl _ _ rfl w.heap.size _ (2 + (2 + 9 + 2)) (([48, 13] ++ ([6, 9] ++ sha2L 3 ++ [5, 0]) : List (BitVec 8)).map W8) rfl hown8' (some ⟨w8.heap.size, 0, none⟩) 2 2 _ rfl (fun x => by cases x) _ so9 (ones8 [4, 64]) (by decide) (by assumption) ?_; intro v10 w10 hown10 hgr10; have hb10 := hb9.grown hgr10 (by assumption) (fun q hq => (hown8'.lt q hq).1); rw [← List.map_append] at hown10; obtain ⟨A10, c10, rfl⟩ := own_slice hown10; have hz10 := hb10.size; have so11 := HS.out.below hb10; clear e9 hown8' so9 hb9 hgr10 hz9) | (at_builtin; refine wlv_append Tryd.elem8 rfl _ _ rfl w.heap.size _ (2 + (2 + 9 + 2) + 2) (([48, 13] ++ ([6, 9] ++ sha2L 3 ++ [5, 0]) ++ [4, 64] : List (BitVec 8)).map W8) rfl hown10 A 64 c _ rfl HZ.out _ so11 (ones8 hash) (by decide) (by assumption) ?_; intro v12 w12 hown12 hgr12; have hb12 := hb10.grown hgr12 (by assumption) (fun q hq => (hown10.lt q hq).1); rw [← List.map_append] at hown12; obtain ⟨A12, c12, rfl⟩ := own_slice hown12; have hz12 := hb12.size; clear hown10 so11 hb10 hgr12 hz10; obtain ⟨W13, e13, ho13, b13⟩ := new2 w12 w.heap.size hz12 48 81 #[.int .u8 48, .int .u8 81] rfl; obtain ⟨_, _, ee, so13, zo13⟩ := own_pc (own_later_ hown12 b13); obtain ⟨rfl, rfl⟩ : A12 = _ ∧ c12 = _ := (by injection ee with a b c; exact ⟨a, c⟩); have hb13 := hb12.trans (b13.mono hz12); have hz13 := hb13.size; clear ee hown12 b13 hb12 hz12) | (at_builtin; refine wlv_append Tryd.elem8 rfl _ _ rfl w.heap.size _ 2 (([48, 81] : List (BitVec 8)).map W8) rfl ho13 A12 (2 + (2 + 9 + 2) + 2 + 64) c12 _ rfl zo13 _ so13 (ones8 _) (by decide) (by assumption) ?_; intro v14 w14 hown14 hgr14; have hb14 := hb13.grown hgr14 (by assumption) (fun q hq => (ho13.lt q hq).1); rw [← List.map_append] at hown14; have hfin := HFT.out; rw [hfin] at hown14; have HF := Lib.hid (FreshV.of_own hown14); have HB14 := Lib.hid hb14; clear hown14 hb14 hfin ho13 so13 zo13 hb13 hgr14 hz13 e13))
  go_ret2
  exact ⟨_, rfl, HF.out, HB14.out⟩
theorem rinfo_ok (w : World) (k : Int) (B : Nat) (A : Option Addr) (n c : Nat) (hash : List (BitVec 8)) (hs : SlV w B A n c (hash.map W8)) (hz : A = none → c = 0) (hB : B ≤ w.heap.size) (h : okB k n = true) :
    Calls Tryd.prog 19 #[.int .i64 k, .slice A n c] w fun e w' => ∃ v, e = .returned (.tuple #[v, .bool true]) ∧ FreshV w' w.heap.size v (infoL k hash) ∧ Below w.heap.size w w' := by
  obtain ⟨hk, rfl⟩ := okB_kind h
  rcases hk.cases with rfl | rfl | rfl | rfl | rfl
  · exact rinfo_1 w B A c hash hs hz hB
  · exact rinfo_2 w B A c hash hs hz hB
  · exact rinfo_3 w B A c hash hs hz hB
  · exact rinfo_4 w B A c hash hs hz hB
  · exact rinfo_5 w B A c hash hs hz hB
end Go.Proofs.YtnpaidieijlkkaaDoor
