/- Parts of one proof, joined: Hf, Hg, Hi, Hj, Hk, Hl, Hm, Hn, Ho, Hp, Hq, Math, Base, Trim, Laws, RefA, RefB, MathB, RefC, RefD, RefE, RefF, Bits. -/
import Derived.Test.YtnpaidieijlkkaaDoorPileJ2
import Derived.Deep.MidRow
import Derived.Lib.AppendZeros
import Derived.Test.YtnpaidieijlkkaaDoorRows
import Derived.WalkKit
import Derived.WalkLawsBesides
import Derived.WalkSpells
import Derived.Deep.QuietTactic
import Derived.BigQuiet
import Derived.Lib.Hide
import Derived.Deep.DeepFit
import Derived.OpenShut
import Derived.Laws.CopyOwn
import Derived.Laws.AppendOwnNone
import Derived.Laws.Externs

/- hashes: a Hash in its block; Size, Block, valid, take. -/
set_option linter.unusedVariables false
set_option linter.unusedSimpArgs false
namespace Go.Proofs.YtnpaidieijlkkaaDoor
open Go.RowKit Go.Shelf

def sizeV (k : Int) : Int := if k = 1 then 20 else if k = 2 then 28 else if k = 3 then 32 else if k = 4 then 48 else if k = 5 then 64 else 0
def blockV (k : Int) : Int := if k = 1 then 64 else if k = 2 then 64 else if k = 3 then 64 else if k = 4 then 128 else if k = 5 then 128 else 0
set_option maxHeartbeats 800000 in
theorem size_any (w : World) (k : Int) : Calls Tryd.prog 60 #[.int .i64 k] w fun e w' => e = .returned (.int .i64 (sizeV k)) ∧ w = w' := by
  by_cases h1 : k = 1
  · subst h1
    go_enter Tryd.func60, Tryd.ntmps60
    go_wp2
    go_ret
    exact ⟨rfl, rfl⟩
  by_cases h2 : k = 2
  · subst h2
    go_enter Tryd.func60, Tryd.ntmps60
    go_wp2
    go_ret
    exact ⟨rfl, rfl⟩
  by_cases h3 : k = 3
  · subst h3
    go_enter Tryd.func60, Tryd.ntmps60
    go_wp2
    go_ret
    exact ⟨rfl, rfl⟩
  by_cases h4 : k = 4
  · subst h4
    go_enter Tryd.func60, Tryd.ntmps60
    go_wp2
    go_ret
    exact ⟨rfl, rfl⟩
  by_cases h5 : k = 5
  · subst h5
    go_enter Tryd.func60, Tryd.ntmps60
    go_wp2
    go_ret
    exact ⟨rfl, rfl⟩
  go_enter Tryd.func60, Tryd.ntmps60
  go_wp2
  go_ret
  exact ⟨by simp [sizeV, h1, h2, h3, h4, h5], rfl⟩
set_option maxHeartbeats 800000 in
theorem block_any (w : World) (k : Int) : Calls Tryd.prog 101 #[.int .i64 k] w fun e w' => e = .returned (.int .i64 (blockV k)) ∧ w = w' := by
  by_cases h1 : k = 1
  · subst h1
    go_enter Tryd.func101, Tryd.ntmps101
    go_wp2
    go_ret
    exact ⟨rfl, rfl⟩
  by_cases h2 : k = 2
  · subst h2
    go_enter Tryd.func101, Tryd.ntmps101
    go_wp2
    go_ret
    exact ⟨rfl, rfl⟩
  by_cases h3 : k = 3
  · subst h3
    go_enter Tryd.func101, Tryd.ntmps101
    go_wp2
    go_ret
    exact ⟨rfl, rfl⟩
  by_cases h4 : k = 4
  · subst h4
    go_enter Tryd.func101, Tryd.ntmps101
    go_wp2
    go_ret
    exact ⟨rfl, rfl⟩
  by_cases h5 : k = 5
  · subst h5
    go_enter Tryd.func101, Tryd.ntmps101
    go_wp2
    go_ret
    exact ⟨rfl, rfl⟩
  go_enter Tryd.func101, Tryd.ntmps101
  go_wp2
  go_ret
  exact ⟨by simp [blockV, h1, h2, h3, h4, h5], rfl⟩
/-- a kind -/
def KindOk (k : Int) : Prop := 1 ≤ k ∧ k ≤ 5
theorem KindOk.cases {k : Int} (h : KindOk k) : k = 1 ∨ k = 2 ∨ k = 3 ∨ k = 4 ∨ k = 5 := by unfold KindOk at h; omega
theorem sizeV_pos {k : Int} (h : KindOk k) : 0 < sizeV k := by rcases h.cases with rfl | rfl | rfl | rfl | rfl <;> decide
theorem sizeV_no {k : Int} (h : ¬ KindOk k) : sizeV k = 0 := by
  have h' : ¬ (1 ≤ k ∧ k ≤ 5) := h
  unfold sizeV
  rw [if_neg (by omega), if_neg (by omega), if_neg (by omega), if_neg (by omega), if_neg (by omega)]
theorem valid_yes (w : World) (k : Int) (hk : KindOk k) : Calls Tryd.prog 99 #[.int .i64 k] w fun e w' => e = .returned (.bool true) ∧ w = w' := by
  have hp := sizeV_pos hk
  have hc := size_any w k
  obtain ⟨s, hs⟩ : ∃ s, sizeV k = s := ⟨_, rfl⟩
  rw [hs] at hc hp
  have HC := Lib.hid hc
  clear hc hs hk
  go_enter Tryd.func99, Tryd.ntmps99
  go_wp2_with fail
  refine HC.out.mono ?_
  rintro e w' ⟨rfl, rfl⟩
  go_wp2
  go_ret
  exact ⟨rfl, rfl⟩
theorem valid_no (w : World) (k : Int) (hk : ¬ KindOk k) : Calls Tryd.prog 99 #[.int .i64 k] w fun e w' => e = .returned (.bool false) ∧ w = w' := by
  have hp := sizeV_no hk
  have hc := size_any w k
  rw [hp] at hc
  have HC := Lib.hid hc
  clear hc hp hk
  go_enter Tryd.func99, Tryd.ntmps99
  go_wp2_with fail
  refine HC.out.mono ?_
  rintro e w' ⟨rfl, rfl⟩
  go_wp2
  go_ret
  exact ⟨rfl, rfl⟩

/-- the cells of a Hash -/
def hashL (k : Int) (ws : List (BitVec 64)) (len : Int) (left : List (BitVec 8)) : List Value := .int .i64 k :: (ws.map W64 ++ (.int .i64 len :: left.map W8))
/-- block g is, whole, a Hash -/
structure HashR (w : World) (g : Nat) (k : Int) (ws : List (BitVec 64)) (len : Int) (left : List (BitVec 8)) : Prop where
  row : RowV 126 w g (hashL k ws len left)
  hw : ws.length = 8
  hl : left.length = 128
section
variable {w : World} {g : Nat} {k : Int} {ws : List (BitVec 64)} {len : Int} {left : List (BitVec 8)}
theorem HashR.kind (h : HashR w g k ws len left) : w.cell? ⟨g, 0, none⟩ = some (.int .i64 k) := h.row.at_ rfl
theorem HashR.words (h : HashR w g k ws len left) : w.rangeAt g 1 (ws.map W64) := fun j v hv => h.row.at_ (by
  have hj : j < (ws.map W64).length := (List.getElem?_eq_some_iff.1 hv).1
  rw [hashL, show 1 + j = j + 1 by omega, List.getElem?_cons_succ, List.getElem?_append_left hj]; exact hv)
theorem HashR.length_ (h : HashR w g k ws len left) : w.cell? ⟨g, 9, none⟩ = some (.int .i64 len) := h.row.at_ (by
  rw [hashL, List.getElem?_cons_succ, List.getElem?_append_right (by rw [List.length_map, h.hw]; omega), List.length_map, h.hw]; rfl)
theorem HashR.left_ (h : HashR w g k ws len left) {j : Nat} {x : BitVec 8} (hx : left[j]? = some x) : w.cell? ⟨g, 10 + j, none⟩ = some (W8 x) := h.row.at_ (by
  rw [hashL, show 10 + j = (9 + j) + 1 by omega, List.getElem?_cons_succ, List.getElem?_append_right (by rw [List.length_map, h.hw]; omega), List.length_map, h.hw, show 9 + j - 8 = j + 1 by omega, List.getElem?_cons_succ, List.getElem?_map, hx]; rfl)
theorem HashR.later {w' : World} (h : HashR w g k ws len left) (hb : Below w.heap.size w w') : HashR w' g k ws len left := ⟨h.row.later hb, h.hw, h.hl⟩
theorem HashR.there (h : HashR w g k ws len left) : w.there g 1 8 := fun j hj => ⟨by
  have := h.words j (W64 (ws.getD j 0)) (by rw [List.getElem?_map, List.getD_eq_getElem?_getD, List.getElem?_eq_getElem (by have := h.hw; omega)]; rfl)
  rw [this]; rfl, h.row.frozen _⟩
end
/-- cells put one after the other -/
def setL (vs : List Value) : Nat → List Value → List Value
  | _, [] => vs
  | o, y :: r => setL (vs.set o y) (o + 1) r
theorem RowV.setCells {t : TypeId} {g : Nat} : ∀ (ys : List Value) (o : Nat) (w : World) (vs : List Value), RowV t w g vs → RowV t (w.setCells g o ys) g (setL vs o ys)
  | [], _, _, _, h => h
  | y :: r, o, _, _, h => RowV.setCells r (o + 1) _ _ (h.set o y)
theorem setL_words (k v : Value) (r : List Value) {a b : List Value} (ha : a.length = 8) (hb : b.length = 8) : setL (k :: (a ++ v :: r)) 1 b = k :: (b ++ v :: r) := by
  obtain ⟨_, _, _, _, _, _, _, _, rfl⟩ := list8 ha
  obtain ⟨_, _, _, _, _, _, _, _, rfl⟩ := list8 hb
  rfl
theorem HashR.put {w : World} {g : Nat} {k : Int} {ws : List (BitVec 64)} {len : Int} {left : List (BitVec 8)} (h : HashR w g k ws len left) (ws' : List (BitVec 64)) (hl : ws'.length = 8) :
    HashR (w.setCells g 1 (ws'.map W64)) g k ws' len left :=
  ⟨by
    have h2 := RowV.setCells (ws'.map W64) 1 _ _ h.row
    rw [hashL, setL_words _ _ _ (by rw [List.length_map, h.hw]) (by rw [List.length_map, hl])] at h2
    exact h2, hl, h.hl⟩
theorem heap_setCells (g : Nat) : ∀ (ys : List Value) (o : Nat) (w : World), (w.setCells g o ys).heap.size = w.heap.size ∧ ∀ b, b ≠ g → (w.setCells g o ys).heap[b]? = w.heap[b]?
  | [], _, _ => ⟨rfl, fun _ _ => rfl⟩
  | y :: r, o, w => by
    have h := heap_setCells g r (o + 1) (w.setCell ⟨g, o, none⟩ y)
    exact ⟨h.1.trans (by simp [World.setCell]), fun b hb => (h.2 b hb).trans (Below.heap_setCell w ⟨g, o, none⟩ y b hb)⟩
end Go.Proofs.YtnpaidieijlkkaaDoor

/- hashes: take. -/
set_option linter.unusedVariables false
set_option linter.unusedSimpArgs false
namespace Go.Proofs.YtnpaidieijlkkaaDoor
open Go.RowKit Go.Shelf

/-- nothing but block g (and what is new) has turned -/
abbrev OnlyV (w w' : World) (g : Nat) : Prop := w.grownBy w' (some g)
theorem OnlyV.refl (w : World) (g : Nat) : OnlyV w w g := World.grownBy.refl w _
theorem OnlyV.trans {a b c : World} {g : Nat} (h : OnlyV a b g) (k : OnlyV b c g) : OnlyV a c g :=
  ⟨k.os.trans h.os, k.tape.trans h.tape, k.output.trans h.output, Nat.le_trans h.size k.size, fun i hi hn => (k.block i (Nat.lt_of_lt_of_le hi h.size) hn).trans (h.block i hi hn)⟩
theorem OnlyV.of_below {a w : World} (h : Below a.heap.size a w) (g : Nat) : OnlyV a w g := ⟨h.os, h.tape, h.output, h.size, fun i hi _ => h.block i hi⟩
theorem OnlyV.drewN {a w : World} {g : Nat} (h : OnlyV a w g) (n : Nat) : OnlyV a (w.drewN n) g := ⟨h.os, h.tape, h.output, h.size, h.block⟩
theorem OnlyV.below {a w : World} {g B : Nat} (h : OnlyV a w g) (hB : B ≤ g) (hs : B ≤ a.heap.size) : Below B a w :=
  ⟨h.os, h.tape, h.output, h.size, fun i hi => h.block i (by omega) (fun e => by injection e; omega)⟩
theorem OnlyV.set {a w : World} {g : Nat} (h : OnlyV a w g) (i : Nat) (u : Value) : OnlyV a (w.setCell ⟨g, i, none⟩ u) g :=
  h.trans ⟨rfl, rfl, rfl, by simp [World.setCell], fun k _ hn => Below.heap_setCell _ _ _ _ (fun e => hn (by rw [e]))⟩
theorem OnlyV.sets {a : World} {g : Nat} : ∀ (ys : List Value) (o : Nat) (w : World), OnlyV a w g → OnlyV a (w.setCells g o ys) g
  | [], _, _, h => h
  | y :: r, o, _, h => OnlyV.sets r (o + 1) _ (h.set o y)

/-- a block is taken into the words -/
def compV (k : Int) (ws : List (BitVec 64)) (bs : List (BitVec 8)) : List (BitVec 64) := if k = 1 then comp1 ws bs else if k = 2 then comp32 ws bs else if k = 3 then comp32 ws bs else comp64 ws bs
theorem compV_length (k : Int) (ws : List (BitVec 64)) (bs : List (BitVec 8)) (h : ws.length = 8) : (compV k ws bs).length = 8 := by
  unfold compV
  split
  · simp [comp1, addL, lowL, H1.toL, h]
  · split
    · simp [comp32, addL, lowL, H32.toL, h]
    · split
      · simp [comp32, addL, lowL, H32.toL, h]
      · simp [comp64, add64L, H64.toL, h]

set_option maxRecDepth 100000 in
set_option maxHeartbeats 2000000 in
theorem take_any (w : World) (g : Nat) (k : Int) (hk : KindOk k) (ws : List (BitVec 64)) (len : Int) (left : List (BitVec 8)) (hr : HashR w g k ws len left) (B b off n c : Nat) (bs : List (BitVec 8)) (hs : SlV w B (some ⟨b, off, none⟩) n c (bs.map W8)) (hn : (n : Int) = blockV k) (hB : B ≤ w.heap.size) (hG : RootsG w) :
    Calls Tryd.prog 103 #[.pointer (some ⟨g, 0, none⟩), .slice (some ⟨b, off, none⟩) n c] w fun e w' => e = .returned (.tuple #[]) ∧ HashR w' g k (compV k ws bs) len left ∧ OnlyV w w' g := by
  have hlm : (ws.map W64).length = 8 := by rw [List.length_map, hr.hw]
  have hra := hr.words
  have hkc := hr.kind
  have hcl := compV_length k ws bs hr.hw
  obtain ⟨R, hR⟩ : ∃ R, compV k ws bs = R := ⟨_, rfl⟩
  rw [hR] at hcl
  have hclm : (R.map W64).toArray.size = 8 := by simpa using hcl
  have hmix : Calls Tryd.prog (if k = 1 then 131 else if k = 2 then 132 else if k = 3 then 132 else 133) #[.agg (ws.map W64).toArray, .slice (some ⟨b, off, none⟩) n c] w fun e w' => e = .returned (.agg (R.map W64).toArray) ∧ Below w.heap.size w w' := by
    rw [← hR]
    rcases hk.cases with rfl | rfl | rfl | rfl | rfl
    · exact mixSHA1_any w ws hr.hw B b off n c bs hs (by have : blockV 1 = 64 := rfl; omega) hB
    · exact mix32_any w ws hr.hw B b off n c bs hs (by have : blockV 2 = 64 := rfl; omega) hB hG
    · exact mix32_any w ws hr.hw B b off n c bs hs (by have : blockV 3 = 64 := rfl; omega) hB hG
    · exact mix64_any w ws hr.hw B b off n c bs hs (by have : blockV 4 = 128 := rfl; omega) hB hG
    · exact mix64_any w ws hr.hw B b off n c bs hs (by have : blockV 5 = 128 := rfl; omega) hB hG
  rw [hR]
  have HR := Lib.hid hr
  have HCL := Lib.hid hcl
  clear hs hn hB hG hR hr hcl
  rcases hk.cases with rfl | rfl | rfl | rfl | rfl
  all_goals
    have HM := Lib.hid hmix
    simp only [Int.reduceEq, ↓reduceIte] at HM
    clear hmix hk
    go_enter Tryd.func103, Tryd.ntmps103
    go_wp2_with (refine wpList_load_mid rfl 122 _ rfl g 1 rfl (ws.map W64) _ hra Tryd.underlying122 rfl (Tryd.arr64.trans (by rw [hlm])) ?_)
    refine HM.out.mono ?_
    rintro e w2 ⟨rfl, hb2⟩
    have hr2 := HR.out.later hb2
    have hth := hr2.there
    have HB2 := Lib.hid hb2
    have HR2 := Lib.hid hr2
    clear hb2 hr2 hra hkc
    go_wp2_with (refine wpList_store_mid rfl 122 _ _ rfl g 1 (R.map W64).toArray rfl rfl (by rw [hclm]; exact hth) (by rw [hclm]; exact Tryd.arr64) (all_oneCell_toArray (ones64 R)) ?_)
    refine bodyPost_end (results_none rfl _ _ _) rfl ?_
    exact ⟨rfl, HR2.out.put R HCL.out, OnlyV.sets _ _ _ (OnlyV.of_below HB2.out g)⟩
end Go.Proofs.YtnpaidieijlkkaaDoor

/- hashes: works, Copy, New. -/
set_option linter.unusedVariables false
set_option linter.unusedSimpArgs false
namespace Go.Proofs.YtnpaidieijlkkaaDoor
open Go.RowKit Go.Shelf

theorem works_yes (w : World) (g : Nat) (k : Int) (hk : KindOk k) (ws : List (BitVec 64)) (len : Int) (left : List (BitVec 8)) (hr : HashR w g k ws len left) :
    Calls Tryd.prog 100 #[.pointer (some ⟨g, 0, none⟩)] w fun e w' => e = .returned (.bool true) ∧ w = w' := by
  have hkc := hr.kind
  have hc := valid_yes w k hk
  have HC := Lib.hid hc
  clear hc hr hk
  go_enter Tryd.func100, Tryd.ntmps100
  go_wp2_with fail
  refine HC.out.mono ?_
  rintro e w' ⟨rfl, rfl⟩
  go_wp2
  go_ret
  exact ⟨rfl, rfl⟩
theorem works_nil (w : World) : Calls Tryd.prog 100 #[.pointer none] w fun e w' => e = .returned (.bool false) ∧ w = w' := by
  go_enter Tryd.func100, Tryd.ntmps100
  go_wp2
  go_ret
  exact ⟨rfl, rfl⟩
theorem Tryd.hash138 : (Tryd.prog.info? 126).map (·.size) = some 138 := by kernel_rfl
theorem hashL_length (k : Int) (ws : List (BitVec 64)) (len : Int) (left : List (BitVec 8)) (hw : ws.length = 8) (hl : left.length = 128) : (hashL k ws len left).length = 138 := by simp [hashL, hw, hl]
theorem hashL_ones (k : Int) (ws : List (BitVec 64)) (len : Int) (left : List (BitVec 8)) : Ones (hashL k ws len left) := fun v hv => by
  rcases List.mem_cons.1 hv with rfl | hv
  · rfl
  · rcases List.mem_append.1 hv with hv | hv
    · exact ones64 _ v hv
    · rcases List.mem_cons.1 hv with rfl | hv
      · rfl
      · exact ones8 _ v hv
set_option maxRecDepth 100000 in
set_option maxHeartbeats 1000000 in
theorem copy_any (w : World) (g : Nat) (k : Int) (ws : List (BitVec 64)) (len : Int) (left : List (BitVec 8)) (hr : HashR w g k ws len left) :
    Calls Tryd.prog 104 #[.pointer (some ⟨g, 0, none⟩)] w fun e w' => e = .returned (.pointer (some ⟨w.heap.size, 0, none⟩)) ∧ HashR w' w.heap.size k ws len left ∧ Below w.heap.size w w' := by
  have hL := hashL_length k ws len left hr.hw hr.hl
  have hO := hashL_ones k ws len left
  have hrow := hr.row
  have hzr : (hashL 0 (List.replicate 8 0) 0 (List.replicate 128 0)).toArray = Tryd.zeroCells126 := by first | rfl | kernel_rfl
  have hZ := hashL_length 0 (List.replicate 8 0) 0 (List.replicate 128 0) (by simp) (by simp)
  obtain ⟨W1, e1, r1, b1, z1⟩ := newV w 126 (hashL 0 (List.replicate 8 0) 0 (List.replicate 128 0)) _ hzr
  obtain ⟨V, hV⟩ : ∃ V, hashL k ws len left = V := ⟨_, rfl⟩
  obtain ⟨Z, hZ2⟩ : ∃ V, hashL 0 (List.replicate 8 0) 0 (List.replicate 128 0) = V := ⟨_, rfl⟩
  rw [hV] at hL hO hrow
  rw [hZ2] at r1 hZ
  obtain ⟨g1, hg1⟩ : ∃ g, w.heap.size = g := ⟨_, rfl⟩
  rw [hg1] at r1 b1
  have HG := Lib.hid hg1
  have HV := Lib.hid hV
  have HW := Lib.hid hr.hw
  have HL := Lib.hid hr.hl
  have HB := Lib.hid b1
  clear hV hZ2 hzr hr z1 b1
  go_enter Tryd.func104, Tryd.ntmps104
  go_wp2_with (first | refine wpList_load_row rfl 126 _ rfl g rfl 126 V.toArray (0, 0) _ hrow Tryd.underlying126 rfl (Tryd.hash138.trans (by simp [hL])) ?_ | (refine wlv_store rfl 126 138 Tryd.hash138 _ _ rfl g1 V rfl rfl _ _ r1 hZ hL hO ?_; intro w2 hr2 hb2 hz2))
  go_ret
  rw [HG.out]
  exact ⟨rfl, ⟨by rw [HV.out]; exact hr2, HW.out, HL.out⟩, hb2 _ _ HB.out (Nat.le_refl _)⟩
theorem copy_nil (w : World) : Calls Tryd.prog 104 #[.pointer none] w fun e w' => e = .returned (.pointer none) ∧ w = w' := by
  go_enter Tryd.func104, Tryd.ntmps104
  go_wp2
  go_ret
  exact ⟨rfl, rfl⟩
end Go.Proofs.YtnpaidieijlkkaaDoor

/- hashes: New. -/
set_option linter.unusedVariables false
set_option linter.unusedSimpArgs false
namespace Go.Proofs.YtnpaidieijlkkaaDoor
open Go.RowKit Go.Shelf

/-- the words before the first block, by kind -/
def startsL (k : Int) : List (BitVec 64) :=
  if k = 1 then [0x67452301, 0xefcdab89, 0x98badcfe, 0x10325476, 0xc3d2e1f0, 0, 0, 0]
  else if k = 2 then [0xc1059ed8, 0x367cd507, 0x3070dd17, 0xf70e5939, 0xffc00b31, 0x68581511, 0x64f98fa7, 0xbefa4fa4]
  else if k = 3 then [0x6a09e667, 0xbb67ae85, 0x3c6ef372, 0xa54ff53a, 0x510e527f, 0x9b05688c, 0x1f83d9ab, 0x5be0cd19]
  else if k = 4 then [0xcbbb9d5dc1059ed8, 0x629a292a367cd507, 0x9159015a3070dd17, 0x152fecd8f70e5939, 0x67332667ffc00b31, 0x8eb44a8768581511, 0xdb0c2e0d64f98fa7, 0x47b5481dbefa4fa4]
  else [0x6a09e667f3bcc908, 0xbb67ae8584caa73b, 0x3c6ef372fe94f82b, 0xa54ff53a5f1d36f1, 0x510e527fade682d1, 0x9b05688c2b3e6c1f, 0x1f83d9abfb41bd6b, 0x5be0cd19137e2179]
theorem startsL_length (k : Int) : (startsL k).length = 8 := by unfold startsL; (repeat' split) <;> rfl
/-- the variable starts -/
def StartsG (w : World) : Prop := 1 < w.heap.size ∧ ∀ k : Nat, 1 ≤ k → k ≤ 5 → w.rangeAt 1 (k * 8) ((startsL k).map W64)
theorem StartsG.later {w w' : World} (h : StartsG w) (hb : Below w.heap.size w w') : StartsG w' := ⟨Nat.lt_of_lt_of_le h.1 hb.size, fun k h1 h5 j v hv => (hb.cell (p := ⟨1, k * 8 + j, none⟩) h.1).trans (h.2 k h1 h5 j v hv)⟩
theorem new_no (w : World) (k : Int) (hk : ¬ KindOk k) : Calls Tryd.prog 78 #[.int .i64 k] w fun e w' => e = .returned (.pointer none) ∧ w = w' := by
  have hc := valid_no w k hk
  have HC := Lib.hid hc
  clear hc hk
  go_enter Tryd.func78, Tryd.ntmps78
  go_wp2_with fail
  refine HC.out.mono ?_
  rintro e w' ⟨rfl, rfl⟩
  go_wp2
  go_ret
  exact ⟨rfl, rfl⟩
set_option maxRecDepth 100000 in
set_option maxHeartbeats 2000000 in
theorem new_any (w : World) (k : Nat) (hk : KindOk k) (hG : StartsG w) :
    Calls Tryd.prog 78 #[.int .i64 (k : Int)] w fun e w' => e = .returned (.pointer (some ⟨w.heap.size, 0, none⟩)) ∧ HashR w' w.heap.size k (startsL k) 0 (List.replicate 128 0) ∧ Below w.heap.size w w' := by
  have hk' : 1 ≤ k ∧ k ≤ 5 := by unfold KindOk at hk; omega
  have hk6 : (k : Int) < 6 := by omega
  have hc := valid_yes w k hk
  have hra := hG.2 k hk'.1 hk'.2
  have hl := startsL_length k
  have hlm : ((startsL k).map W64).length = 8 := by simpa using hl
  obtain ⟨x0, x1, x2, x3, x4, x5, x6, x7, hx⟩ := list8 hl
  obtain ⟨W1, e1, r1, b1, z1⟩ := newV w 126 (hashL k (startsL k) 0 (List.replicate 128 0)) _ rfl
  obtain ⟨g1, hg1⟩ : ∃ g, w.heap.size = g := ⟨_, rfl⟩
  rw [hg1] at r1 b1
  rw [hx] at hra hlm e1
  have HC := Lib.hid hc
  have HG := Lib.hid hg1
  have HB := Lib.hid b1
  have HR := Lib.hid r1
  have HL := Lib.hid hl
  clear hc hG hk hl hx z1 r1 b1
  go_enter Tryd.func78, Tryd.ntmps78
  go_wp2_with fail
  refine HC.out.mono ?_
  rintro e w' ⟨rfl, rfl⟩
  go_wp2_with (refine wpList_load_mid rfl 122 _ rfl 1 (k * 8) rfl _ _ hra Tryd.underlying122 rfl (Tryd.arr64.trans (by rw [hlm])) ?_)
  have hz : ((((((((Tryd.zeroCells126.setIfInBounds 0 (.int .i64 (k : Int))).setIfInBounds 1 (W64 x0)).setIfInBounds 2 (W64 x1)).setIfInBounds 3 (W64 x2)).setIfInBounds 4 (W64 x3)).setIfInBounds 5 (W64 x4)).setIfInBounds 6 (W64 x5)).setIfInBounds 7 (W64 x6)).setIfInBounds 8 (W64 x7) = (hashL k [x0, x1, x2, x3, x4, x5, x6, x7] 0 (List.replicate 128 0)).toArray := by first | kernel_rfl | rfl
  go_ret
  rw [hz, e1, HG.out]
  exact ⟨rfl, ⟨HR.out, HL.out, by simp⟩, HB.out⟩
end Go.Proofs.YtnpaidieijlkkaaDoor

/- hashes: padding. -/
set_option linter.unusedVariables false
set_option linter.unusedSimpArgs false
namespace Go.Proofs.YtnpaidieijlkkaaDoor
open Go.RowKit Go.Shelf

theorem Tryd.elem8 : Elem Tryd.prog 22 5 (.int .u8 0) 1 := ⟨Tryd.underlying22, by kernel_rfl, rfl, rfl, by decide⟩
def padN (len bl : Nat) : Nat := bl + bl / 8 - (len + bl / 8) % bl
def byteAt (b j : Nat) : BitVec 8 := BitVec.ofNat 8 (b / 256 ^ j)
/-- the padding after j of the number's bytes are laid -/
def padStep (len bl j : Nat) : List (BitVec 8) := (List.range (padN len bl)).map fun i => if i = 0 then 0x80 else if padN len bl - 1 - i < j then byteAt (8 * len) (padN len bl - 1 - i) else 0
/-- the padding -/
def padL (len bl : Nat) : List (BitVec 8) := padStep len bl 8
theorem padStep_length (len bl j : Nat) : (padStep len bl j).length = padN len bl := by simp [padStep]
theorem range_set {α : Type} (n i : Nat) (f : Nat → α) (y : α) : ((List.range n).map f).set i y = (List.range n).map (fun k => if k = i then y else f k) := by
  refine List.ext_getElem (by simp) fun k h1 h2 => ?_
  simp only [List.getElem_set, List.getElem_map, List.getElem_range]
  by_cases h : i = k
  · rw [if_pos h, if_pos h.symm]
  · rw [if_neg h, if_neg (fun e => h e.symm)]
theorem pad_first (len bl : Nat) (hn : 0 < padN len bl) : (List.replicate (padN len bl) (0 : BitVec 8)).set 0 0x80 = padStep len bl 0 := by
  have : List.replicate (padN len bl) (0 : BitVec 8) = (List.range (padN len bl)).map (fun _ => 0) := by
    refine List.ext_getElem (by simp) fun k h1 h2 => ?_
    simp
  rw [this, range_set, padStep]
  refine List.map_congr_left fun k _ => ?_
  simp
theorem pad_next (len bl j : Nat) (hj : j + 1 < padN len bl) : (padStep len bl j).set (padN len bl - 1 - j) (byteAt (8 * len) j) = padStep len bl (j + 1) := by
  rw [padStep, range_set, padStep]
  refine List.map_congr_left fun k hk => ?_
  have hk := List.mem_range.1 hk
  by_cases h : k = padN len bl - 1 - j
  · rw [if_pos h, if_neg (by omega), if_pos (by omega)]
    congr 1
    omega
  · rw [if_neg h]
    by_cases h0 : k = 0
    · rw [if_pos h0, if_pos h0]
    · rw [if_neg h0, if_neg h0]
      by_cases h1 : padN len bl - 1 - k < j
      · rw [if_pos h1, if_pos (by omega)]
      · rw [if_neg h1, if_neg (by omega)]
theorem byteAt_zero {m i j : Nat} (h : m / 256 ^ j = 0) (hj : j ≤ i) : byteAt m i = 0 := by
  have h1 : m < 256 ^ j := by
    rcases Nat.lt_or_ge m (256 ^ j) with h' | h'
    · exact h'
    · have := Nat.div_pos h' (Nat.pow_pos (by decide)); omega
  have h2 : m < 256 ^ i := Nat.lt_of_lt_of_le h1 (Nat.pow_le_pow_right (by decide) hj)
  rw [byteAt, Nat.div_eq_of_lt h2]; rfl
theorem pad_done (len bl j : Nat) (hj : j ≤ 8) (h : 8 * len / 256 ^ j = 0) : padStep len bl j = padL len bl := by
  rw [padL, padStep, padStep]
  refine List.map_congr_left fun k _ => ?_
  by_cases h0 : k = 0
  · rw [if_pos h0, if_pos h0]
  · rw [if_neg h0, if_neg h0]
    by_cases h1 : padN len bl - 1 - k < j
    · rw [if_pos h1, if_pos (by omega)]
    · rw [if_neg h1]
      by_cases h2 : padN len bl - 1 - k < 8
      · rw [if_pos h2, byteAt_zero h (by omega)]
      · rw [if_neg h2]
theorem i8_byteAt (m j : Nat) : ((m / 256 ^ j : Nat) : Int) % 256 = i8 (byteAt m j) := by
  unfold i8 byteAt
  rw [BitVec.toNat_ofNat]
  omega
theorem padStep_get (len bl j i : Nat) (hi : i < padN len bl) : ∃ x, (padStep len bl j)[i]? = some x := ⟨_, List.getElem?_eq_getElem (by rw [padStep_length]; exact hi)⟩

theorem start_pad (w w1 : World) (len bl g n : Nat) (hn : padN len bl = n) (hg : w.heap.size = g) (h0 : 0 < n) (hr : RowV 5 w1 w.heap.size (List.replicate n (.int .u8 0))) (hb : Below w.heap.size w w1) :
    w1.cell? ⟨g, 0, none⟩ = some (.int .u8 0) ∧ w1.frozen? ⟨g, 0, none⟩ = false ∧ RowV 5 (w1.setCell ⟨g, 0, none⟩ (.int .u8 128)) g ((padStep len bl 0).map W8) ∧ Below g w (w1.setCell ⟨g, 0, none⟩ (.int .u8 128)) := by
  rw [hg] at hr hb
  have hr2 : RowV 5 w1 g ((List.replicate (padN len bl) (0 : BitVec 8)).map W8) := by rw [List.map_replicate, hn]; exact hr
  refine ⟨hr.at_ (by rw [List.getElem?_replicate, if_pos h0]), hr.frozen 0, ?_, below_setV hb (Nat.le_refl _) 0 _⟩
  rw [← pad_first len bl (by omega), List.map_set]
  exact hr2.set 0 (W8 0x80)
set_option maxRecDepth 100000 in
set_option maxHeartbeats 2000000 in
theorem padding64 (w : World) (len : Nat) (hlen : len < 576460752303423488) :
    Calls Tryd.prog 105 #[.int .i64 (len : Int), .int .i64 64] w fun e w' => e = .returned (.slice (some ⟨w.heap.size, 0, none⟩) (padN len 64) (padN len 64)) ∧ RowV 5 w' w.heap.size ((padL len 64).map W8) ∧ Below w.heap.size w w' := by
  obtain ⟨n, hn⟩ : ∃ n, padN len 64 = n := ⟨_, rfl⟩
  obtain ⟨r, hr⟩ : ∃ r, (len + 8) % 64 = r := ⟨_, rfl⟩
  have hr64 : r < 64 := by omega
  have hn1 : n = 72 - r := by rw [← hn, padN, ← hr]
  obtain ⟨m, hm⟩ : ∃ m, 8 * len = m := ⟨_, rfl⟩
  obtain ⟨z, hz⟩ : ∃ z, 63 - r = z := ⟨_, rfl⟩
  have f1 : ((len : Int) + 8).tmod 64 = (r : Int) := by rw [Int.tmod_eq_emod_of_nonneg (by omega)]; omega
  have f2 : (63 : Int) - (r : Int) = (z : Int) := by omega
  have f3 : (1 : Int) + (z : Int) + 8 = (n : Int) := by omega
  have f4 : 8 * (len : Int) = (m : Int) := by omega
  have hm1 : (m : Int) ≤ 4611686018427387903 := by omega
  have hlen1 : (len : Int) ≤ 576460752303423487 := by omega
  have hn9 : 9 ≤ n := by omega
  have hn2 : n ≤ 72 := by omega
  have hn3 : (n : Int) ≤ 72 := by omega
  have hn4 : (0 : Int) < (n : Int) := by omega
  have hz2 : (z : Int) ≤ 63 := by omega
  have hr2 : (r : Int) ≤ 63 := by omega
  obtain ⟨g, hg⟩ : ∃ g, w.heap.size = g := ⟨_, rfl⟩
  have HN := Lib.hid hn
  have HHN := Lib.hid (show 9 ≤ n ∧ n ≤ 72 from ⟨hn9, hn2⟩)
  have HM := Lib.hid hm
  have HG := Lib.hid hg
  clear hn hr hn1 hm hz hlen hr64 hn9 hn2
  have hn9 : 9 ≤ (n : Int) := by have := HHN.out; omega
  rw [HN.out]
  go_enter Tryd.func105, Tryd.ntmps105
  go_wp2_with (at_make; refine wlv_make Tryd.elem8 rfl _ rfl _ n rfl (by first | rfl | omega) (by have := HHN.out; omega) ?_; intro w1 hr1 hb1 hz1; have hp := start_pad w w1 len 64 g n HN.out HG.out (by have := HHN.out; omega) hr1 hb1; have hc0 := hp.1; have hf0 := hp.2.1; have HP := Lib.hid hp.2.2; clear hp hr1 hb1 hz1)
  clear hg f1 f2 f3 f4
  go_loopw [8, 9] (fun i b wr => ∃ j : Nat, j ≤ 8 ∧ i = .int .i64 ((n - 1 - j : Nat) : Int) ∧ b = .int .i64 ((m / 256 ^ j : Nat) : Int) ∧ RowV 5 wr g ((padStep len 64 j).map W8) ∧ Below g w wr) (fun _ b _ => (intOf b).toNat)
  case atStart =>
    have := HHN.out
    exact ⟨0, by decide, by congr 1; omega, by simp, HP.out.1, HP.out.2⟩
  case round =>
    obtain ⟨j, hj, rfl, rfl, hr, hb⟩ := hrel
    obtain ⟨b, hbb⟩ : ∃ b, m / 256 ^ j = b := ⟨_, rfl⟩
    rw [hbb]
    have hbm : b ≤ m := by rw [← hbb]; exact Nat.div_le_self _ _
    by_cases hb0 : b = 0
    · subst hb0
      have hd := pad_done len 64 j hj (by rw [HM.out]; exact hbb)
      rw [hd] at hr
      have HRR := Lib.hid hr
      have HBB := Lib.hid hb
      clear hd hbb hr hb
      go_wp2
      go_ret
      rw [HG.out]
      exact ⟨rfl, HRR.out, HBB.out⟩
    · have hb1 : (0 : Int) < (b : Int) := by omega
      have hmm : m < 4611686018427387904 := by omega
      have hj8 : j < 8 := by
        rcases Nat.lt_or_ge j 8 with h | h
        · exact h
        · exfalso
          obtain rfl : j = 8 := by omega
          exact hb0 (hbb.symm.trans (Nat.div_eq_of_lt (by have : (256 : Nat) ^ 8 = 18446744073709551616 := by decide
                                                          omega)))
      have h9 := HHN.out
      obtain ⟨q, hq⟩ : ∃ q, n - 1 - j = q := ⟨_, rfl⟩
      obtain ⟨q2, hq2⟩ : ∃ q2, n - 1 - (j + 1) = q2 := ⟨_, rfl⟩
      obtain ⟨b2, hb2⟩ : ∃ b2, m / 256 ^ (j + 1) = b2 := ⟨_, rfl⟩
      have hbd : b / 256 = b2 := by rw [← hbb, ← hb2, Nat.div_div_eq_div_mul, Nat.pow_succ]
      obtain ⟨y, hy⟩ : ∃ y, byteAt m j = y := ⟨_, rfl⟩
      have hyb : (b : Int) % 256 = i8 y := by rw [← hy, ← hbb]; exact i8_byteAt m j
      have i1 : (q : Int) - 1 = (q2 : Int) := by omega
      have i2 : (b : Int) / 256 = (b2 : Int) := by omega
      have i3 : (q : Int) < (n : Int) := by omega
      have i4 : (q : Int) ≤ 72 := by omega
      have i5 : (b : Int) ≤ 4611686018427387903 := by omega
      have i6 : (q2 : Int) ≤ 72 := by omega
      obtain ⟨x, hx⟩ := padStep_get len 64 j q (by rw [HN.out]; omega)
      have hcl : wr.cell? ⟨g, q, none⟩ = some (W8 x) := hr.at_ (by rw [List.getElem?_map, hx]; rfl)
      have hfz := hr.frozen q
      have hr2 := hr.set q (W8 y)
      have hnx := pad_next len 64 j (by rw [HN.out]; omega)
      rw [HM.out, HN.out, hq, hy] at hnx
      rw [← List.map_set, hnx] at hr2
      have hB2 := below_setV hb (Nat.le_refl g) q (W8 y)
      have hms : b2 < b := by omega
      have HR2 := Lib.hid hr2
      have HB2 := Lib.hid hB2
      have HQ2 := Lib.hid hq2
      have HBQ := Lib.hid hb2
      have HMS := Lib.hid hms
      have HJ := Lib.hid hj8
      rw [hq]
      clear hr2 hB2 hq2 hb2 hms hj8 hr hb hbb hbd hx hnx hy hmm h9 hq hbm hj hb0
      go_wp2
      go_roundw
      case rel => exact ⟨j + 1, HJ.out, by rw [HQ2.out], by rw [HBQ.out], HR2.out, HB2.out⟩
      case measure =>
        have := HMS.out
        simp [intOf]
        omega
set_option maxRecDepth 100000 in
set_option maxHeartbeats 2000000 in
theorem padding128 (w : World) (len : Nat) (hlen : len < 576460752303423488) :
    Calls Tryd.prog 105 #[.int .i64 (len : Int), .int .i64 128] w fun e w' => e = .returned (.slice (some ⟨w.heap.size, 0, none⟩) (padN len 128) (padN len 128)) ∧ RowV 5 w' w.heap.size ((padL len 128).map W8) ∧ Below w.heap.size w w' := by
  obtain ⟨n, hn⟩ : ∃ n, padN len 128 = n := ⟨_, rfl⟩
  obtain ⟨r, hr⟩ : ∃ r, (len + 16) % 128 = r := ⟨_, rfl⟩
  have hr64 : r < 128 := by omega
  have hn1 : n = 144 - r := by rw [← hn, padN, ← hr]
  obtain ⟨m, hm⟩ : ∃ m, 8 * len = m := ⟨_, rfl⟩
  obtain ⟨z, hz⟩ : ∃ z, 127 - r = z := ⟨_, rfl⟩
  have f1 : ((len : Int) + 16).tmod 128 = (r : Int) := by rw [Int.tmod_eq_emod_of_nonneg (by omega)]; omega
  have f2 : (127 : Int) - (r : Int) = (z : Int) := by omega
  have f3 : (1 : Int) + (z : Int) + 16 = (n : Int) := by omega
  have f4 : 8 * (len : Int) = (m : Int) := by omega
  have hm1 : (m : Int) ≤ 4611686018427387903 := by omega
  have hlen1 : (len : Int) ≤ 576460752303423487 := by omega
  have hn9 : 17 ≤ n := by omega
  have hn2 : n ≤ 144 := by omega
  have hn3 : (n : Int) ≤ 144 := by omega
  have hn4 : (0 : Int) < (n : Int) := by omega
  have hz2 : (z : Int) ≤ 127 := by omega
  have hr2 : (r : Int) ≤ 127 := by omega
  obtain ⟨g, hg⟩ : ∃ g, w.heap.size = g := ⟨_, rfl⟩
  have HN := Lib.hid hn
  have HHN := Lib.hid (show 17 ≤ n ∧ n ≤ 144 from ⟨hn9, hn2⟩)
  have HM := Lib.hid hm
  have HG := Lib.hid hg
  clear hn hr hn1 hm hz hlen hr64 hn9 hn2
  have hn9 : 17 ≤ (n : Int) := by have := HHN.out; omega
  rw [HN.out]
  go_enter Tryd.func105, Tryd.ntmps105
  go_wp2_with (at_make; refine wlv_make Tryd.elem8 rfl _ rfl _ n rfl (by first | rfl | omega) (by have := HHN.out; omega) ?_; intro w1 hr1 hb1 hz1; have hp := start_pad w w1 len 128 g n HN.out HG.out (by have := HHN.out; omega) hr1 hb1; have hc0 := hp.1; have hf0 := hp.2.1; have HP := Lib.hid hp.2.2; clear hp hr1 hb1 hz1)
  clear hg f1 f2 f3 f4
  go_loopw [8, 9] (fun i b wr => ∃ j : Nat, j ≤ 8 ∧ i = .int .i64 ((n - 1 - j : Nat) : Int) ∧ b = .int .i64 ((m / 256 ^ j : Nat) : Int) ∧ RowV 5 wr g ((padStep len 128 j).map W8) ∧ Below g w wr) (fun _ b _ => (intOf b).toNat)
  case atStart =>
    have := HHN.out
    exact ⟨0, by decide, by congr 1; omega, by simp, HP.out.1, HP.out.2⟩
  case round =>
    obtain ⟨j, hj, rfl, rfl, hr, hb⟩ := hrel
    obtain ⟨b, hbb⟩ : ∃ b, m / 256 ^ j = b := ⟨_, rfl⟩
    rw [hbb]
    have hbm : b ≤ m := by rw [← hbb]; exact Nat.div_le_self _ _
    by_cases hb0 : b = 0
    · subst hb0
      have hd := pad_done len 128 j hj (by rw [HM.out]; exact hbb)
      rw [hd] at hr
      have HRR := Lib.hid hr
      have HBB := Lib.hid hb
      clear hd hbb hr hb
      go_wp2
      go_ret
      rw [HG.out]
      exact ⟨rfl, HRR.out, HBB.out⟩
    · have hb1 : (0 : Int) < (b : Int) := by omega
      have hmm : m < 4611686018427387904 := by omega
      have hj8 : j < 8 := by
        rcases Nat.lt_or_ge j 8 with h | h
        · exact h
        · exfalso
          obtain rfl : j = 8 := by omega
          exact hb0 (hbb.symm.trans (Nat.div_eq_of_lt (by have : (256 : Nat) ^ 8 = 18446744073709551616 := by decide
                                                          omega)))
      have h9 := HHN.out
      obtain ⟨q, hq⟩ : ∃ q, n - 1 - j = q := ⟨_, rfl⟩
      obtain ⟨q2, hq2⟩ : ∃ q2, n - 1 - (j + 1) = q2 := ⟨_, rfl⟩
      obtain ⟨b2, hb2⟩ : ∃ b2, m / 256 ^ (j + 1) = b2 := ⟨_, rfl⟩
      have hbd : b / 256 = b2 := by rw [← hbb, ← hb2, Nat.div_div_eq_div_mul, Nat.pow_succ]
      obtain ⟨y, hy⟩ : ∃ y, byteAt m j = y := ⟨_, rfl⟩
      have hyb : (b : Int) % 256 = i8 y := by rw [← hy, ← hbb]; exact i8_byteAt m j
      have i1 : (q : Int) - 1 = (q2 : Int) := by omega
      have i2 : (b : Int) / 256 = (b2 : Int) := by omega
      have i3 : (q : Int) < (n : Int) := by omega
      have i4 : (q : Int) ≤ 144 := by omega
      have i5 : (b : Int) ≤ 4611686018427387903 := by omega
      have i6 : (q2 : Int) ≤ 144 := by omega
      obtain ⟨x, hx⟩ := padStep_get len 128 j q (by rw [HN.out]; omega)
      have hcl : wr.cell? ⟨g, q, none⟩ = some (W8 x) := hr.at_ (by rw [List.getElem?_map, hx]; rfl)
      have hfz := hr.frozen q
      have hr2 := hr.set q (W8 y)
      have hnx := pad_next len 128 j (by rw [HN.out]; omega)
      rw [HM.out, HN.out, hq, hy] at hnx
      rw [← List.map_set, hnx] at hr2
      have hB2 := below_setV hb (Nat.le_refl g) q (W8 y)
      have hms : b2 < b := by omega
      have HR2 := Lib.hid hr2
      have HB2 := Lib.hid hB2
      have HQ2 := Lib.hid hq2
      have HBQ := Lib.hid hb2
      have HMS := Lib.hid hms
      have HJ := Lib.hid hj8
      rw [hq]
      clear hr2 hB2 hq2 hb2 hms hj8 hr hb hbb hbd hx hnx hy hmm h9 hq hbm hj hb0
      go_wp2
      go_roundw
      case rel => exact ⟨j + 1, HJ.out, by rw [HQ2.out], by rw [HBQ.out], HR2.out, HB2.out⟩
      case measure =>
        have := HMS.out
        simp [intOf]
        omega
end Go.Proofs.YtnpaidieijlkkaaDoor

/- slices.Clone. -/
set_option linter.unusedVariables false
set_option linter.unusedSimpArgs false
namespace Go.Proofs.YtnpaidieijlkkaaDoor
open Go.RowKit Go.Shelf

theorem clone_nil (w : World) : Calls Tryd.prog 51 #[.slice none 0 0] w fun e w' => e = .returned (.slice none 0 0) ∧ w = w' := by
  have q22 : ∀ (w : World) (a : Option Addr) (n c n' c' : Nat), (binOp .eql 22 (.slice a n c) (.slice none n' c')).run Tryd.prog w = .ok (.bool a.isNone) w := fun w a n c n' c' => Lib.run_eql_slice_nil w _ _ a n c n' c' Tryd.underlying22
  go_enter Tryd.func51, Tryd.ntmps51
  go_wp2
  go_ret
  exact ⟨rfl, rfl⟩
theorem own_empty (w : World) (e : TypeId) : (w.alloc (.cells #[] e (0, 0))).ownsRow w.heap.size e 1 (.slice (some ⟨w.heap.size, 0, none⟩) 0 0) 0 [] :=
  ⟨rfl, .inr ⟨w.heap.size, 0, #[], rfl, Nat.le_refl _, heap_alloc_new w _, Nat.le_refl _, by decide, rfl, rfl⟩⟩
set_option maxRecDepth 100000 in
set_option maxHeartbeats 1000000 in
theorem clone_any (w : World) (B : Nat) (p : Addr) (n c : Nat) (bs : List (BitVec 8)) (hs : SlV w B (some p) n c (bs.map W8)) (hB : B ≤ w.heap.size) (hn : n ≤ 17592186044416) :
    Calls Tryd.prog 51 #[.slice (some p) n c] w fun e w' => ∃ v, e = .returned v ∧ w'.ownsRow w.heap.size 5 1 v n (bs.map W8) ∧ Below w.heap.size w w' := by
  obtain ⟨W1, e1, r1, b1, z1⟩ := newV w 5 [] #[] rfl
  have ho := own_empty w 5
  rw [e1] at ho
  have hs1 := hs.below (b1.mono hB)
  obtain ⟨g, hg⟩ : ∃ g, w.heap.size = g := ⟨_, rfl⟩
  rw [hg] at ho b1 hB
  have hgz : g ≤ W1.heap.size := by omega
  have HG := Lib.hid hg
  have HB := Lib.hid b1
  clear hs r1 b1
  have q22 : ∀ (w : World) (a : Option Addr) (n c n' c' : Nat), (binOp .eql 22 (.slice a n c) (.slice none n' c')).run Tryd.prog w = .ok (.bool a.isNone) w := fun w a n c n' c' => Lib.run_eql_slice_nil w _ _ a n c n' c' Tryd.underlying22
  go_enter Tryd.func51, Tryd.ntmps51
  go_wp2_with (at_builtin; refine wlv_append Tryd.elem8 rfl _ _ rfl g _ 0 [] rfl ho (some p) n c (bs.map W8) rfl (by intro h; cases h) B hs1 (ones8 bs) (by omega) hgz ?_; intro v' w2 hown hgr)
  go_ret
  refine ⟨v', rfl, ?_, by rw [HG.out]; exact HB.out.grown hgr hgz (fun k hk => by injection hk with hk; first | omega | exact Nat.le_of_eq hk | exact Nat.le_of_eq hk.symm)⟩
  rw [HG.out]
  simpa using hown
end Go.Proofs.YtnpaidieijlkkaaDoor

/- slices.Grow of nil. -/
set_option linter.unusedVariables false
set_option linter.unusedSimpArgs false
namespace Go.Proofs.YtnpaidieijlkkaaDoor
open Go.RowKit Go.Shelf

theorem grow_zero (w : World) : Calls Tryd.prog 77 #[.slice none 0 0, .int .i64 0] w fun e w' => e = .returned (.slice none 0 0) ∧ w = w' := by
  go_enter Tryd.func77, Tryd.ntmps77
  go_wp2
  go_ret
  exact ⟨rfl, rfl⟩
/-- an own slice's head, of no elements -/
theorem own_head {w : World} {base : Nat} {e : TypeId} {v : Value} {n : Nat} {vs : List Value} (h : w.ownsRow base e 1 v n vs) (hn : 0 < n) :
    ∃ g cap, v = .slice (some ⟨g, 0, none⟩) n cap ∧ n ≤ cap ∧ cap ≤ 9223372036854775807 ∧ w.ownsRow base e 1 (.slice (some ⟨g, 0, none⟩) 0 cap) 0 [] := by
  rcases h.2 with ⟨_, h0⟩ | ⟨g, cap, cur, rfl, hbase, hh, hnc, hcm, hcs, _⟩
  · omega
  · exact ⟨g, cap, rfl, hnc, by simpa [maxLen] using hcm, ⟨rfl, .inr ⟨g, cap, cur, rfl, hbase, hh, Nat.zero_le _, hcm, hcs, by simp⟩⟩⟩
set_option maxRecDepth 100000 in
set_option maxHeartbeats 1000000 in
theorem grow_any (w : World) (n : Nat) (hn0 : 0 < n) (hn : n ≤ 17592186044416) :
    Calls Tryd.prog 77 #[.slice none 0 0, .int .i64 (n : Int)] w fun e w' => ∃ v, e = .returned v ∧ w'.ownsRow w.heap.size 5 1 v 0 [] ∧ Below w.heap.size w w' := by
  have i1 : (0 : Int) < (n : Int) := by omega
  have i2 : (n : Int) ≤ 17592186044416 := by omega
  obtain ⟨i0, hi, hz0, hz1, hz2⟩ := info_parts Tryd.elem8.info
  have happ := Lib.run_append_nil_zeros (P := Tryd.prog) w 22 3 22 5 i0 (.int .u8 0) .i64 .i64 Tryd.underlying22 Tryd.underlying3 hi hz0 n hn0 (by omega) (by omega) (by rw [hz2]; omega)
  obtain ⟨cap, hcap⟩ : ∃ c, grownCap w n 0 5 = c := ⟨_, rfl⟩
  rw [hcap] at happ
  have hcapge : n ≤ cap := by rw [← hcap]; exact grownCap_ge w _ 0 _
  have hcaple : cap ≤ maxLen := by rw [← hcap]; exact grownCap_le_maxLen w _ 0 _ (by unfold maxLen; omega)
  have hcapm : cap ≤ 9223372036854775807 := by simpa [maxLen] using hcaple
  obtain ⟨Z, hZ⟩ : ∃ Z, Builtin.zeroCells (Value.int .u8 0).cells n ++ Builtin.zeroCells (Value.int .u8 0).cells (cap - n) = Z := ⟨_, rfl⟩
  rw [hZ] at happ
  have hZs : Z.size = cap := by rw [← hZ]; simp [size_zeroCells, Value.cells]; omega
  have hown : (w.drew.alloc (.cells Z 5)).ownsRow w.heap.size 5 1 (.slice (some ⟨w.heap.size, 0, none⟩) 0 cap) 0 [] := World.ownsRow_made w.drew Z cap (Nat.le_refl _) hcaple (by omega)
  have hbel : Below w.heap.size w (w.drew.alloc (.cells Z 5)) := ⟨rfl, rfl, rfl, by simp, fun k hk => Below.heap_alloc w _ k hk⟩
  have hcap3 : (cap : Int) ≤ 9223372036854775807 := by omega
  have HOWN := Lib.hid hown
  have HBEL := Lib.hid hbel
  clear hi hz0 hz1 hz2 hcap hZ hZs hown hbel hcaple hcapge
  obtain ⟨g, hg⟩ : ∃ g, w.heap.size = g := ⟨_, rfl⟩
  have HG := Lib.hid hg
  have HN0 := Lib.hid hn0
  clear hn0
  go_enter Tryd.func77, Tryd.ntmps77
  go_wp2_with (at_builtin; refine Lib.wpList_append_run _ rfl _ _ _ _ rfl _ _ rfl rfl _ _ happ ?_)
  go_ret
  have hg' := HG.out
  subst hg'
  exact ⟨_, rfl, HOWN.out, HBEL.out⟩
end Go.Proofs.YtnpaidieijlkkaaDoor

/- slices.Concat of two. -/
set_option linter.unusedVariables false
set_option linter.unusedSimpArgs false
namespace Go.Proofs.YtnpaidieijlkkaaDoor
open Go.RowKit Go.Shelf

theorem grow_both (w : World) (n : Nat) (hn : n ≤ 17592186044416) :
    Calls Tryd.prog 77 #[.slice none 0 0, .int .i64 (n : Int)] w fun e w' => ∃ v, e = .returned v ∧ w'.ownsRow w.heap.size 5 1 v 0 [] ∧ Below w.heap.size w w' := by
  rcases Nat.eq_zero_or_pos n with rfl | h
  · refine (grow_zero w).mono ?_
    rintro e w' ⟨rfl, rfl⟩
    exact ⟨_, rfl, ⟨rfl, .inl ⟨rfl, rfl⟩⟩, Below.refl _ _⟩
  · exact grow_any w n h hn
def catL (xs ys : List (BitVec 8)) : Nat → List (BitVec 8)
  | 0 => []
  | 1 => xs
  | _ => xs ++ ys
def lenK (n1 n : Nat) : Nat → Nat
  | 0 => 0
  | 1 => n1
  | _ => n
set_option maxRecDepth 100000 in
set_option maxHeartbeats 2000000 in
theorem concat2_any (w : World) (g : Nat) (A1 A2 : Option Addr) (n1 c1 n2 c2 : Nat) (xs ys : List (BitVec 8)) (hr : RowV 22 w g [.slice A1 n1 c1, .slice A2 n2 c2])
    (B : Nat) (hs1 : SlV w B A1 n1 c1 (xs.map W8)) (hs2 : SlV w B A2 n2 c2 (ys.map W8)) (hB : B ≤ w.heap.size) (hz1 : A1 = none → c1 = 0) (hz2 : A2 = none → c2 = 0) (hn : n1 + n2 ≤ 17592186044416) :
    Calls Tryd.prog 53 #[.slice (some ⟨g, 0, none⟩) 2 2] w fun e w' => ∃ v, e = .returned v ∧ w'.ownsRow w.heap.size 5 1 v (n1 + n2) ((xs ++ ys).map W8) ∧ Below w.heap.size w w' := by
  have hc0 : w.cell? ⟨g, 0, none⟩ = some (.slice A1 n1 c1) := hr.at_ rfl
  have hc1 : w.cell? ⟨g, 1, none⟩ = some (.slice A2 n2 c2) := hr.at_ rfl
  have hgl := hr.lt
  have i1 : (n1 : Int) ≤ 17592186044416 := by omega
  have i2 : (n2 : Int) ≤ 17592186044416 := by omega
  obtain ⟨n, hn12⟩ : ∃ n, n1 + n2 = n := ⟨_, rfl⟩
  have i3 : (n1 : Int) + (n2 : Int) = (n : Int) := by omega
  have i4 : (n : Int) ≤ 17592186044416 := by omega
  rw [hn12]
  obtain ⟨G, hG⟩ : ∃ g, w.heap.size = g := ⟨_, rfl⟩
  have HN := Lib.hid hn12
  have HG := Lib.hid hG
  have HR := Lib.hid hr
  have HS1 := Lib.hid hs1
  have HS2 := Lib.hid hs2
  have HZ1 := Lib.hid hz1
  have HZ2 := Lib.hid hz2
  have HB := Lib.hid hB
  have HGL := Lib.hid hgl
  clear hn12 hG hr hs1 hs2 hz1 hz2 hB hn hgl
  go_enter Tryd.func53, Tryd.ntmps53
  go_wp2
  go_loopw [3, 11] (fun s i wr => w = wr ∧ ((i = .int .i64 0 ∧ s = .int .i64 0) ∨ (i = .int .i64 1 ∧ s = .int .i64 (n1 : Int)) ∨ (i = .int .i64 2 ∧ s = .int .i64 (n : Int)))) (fun _ i _ => 2 - (intOf i).toNat)
  case atStart => exact ⟨rfl, .inl ⟨rfl, rfl⟩⟩
  case round =>
    obtain ⟨rfl, ⟨rfl, rfl⟩ | ⟨rfl, rfl⟩ | ⟨rfl, rfl⟩⟩ := hrel
    · go_wp2
      go_roundw
      case rel => exact ⟨by first | rfl | trivial, .inr (.inl ⟨rfl, rfl⟩)⟩
      case measure => decide
    · go_wp2
      go_roundw
      case rel => exact ⟨by first | rfl | trivial, .inr (.inr ⟨rfl, rfl⟩)⟩
      case measure => decide
    · clear hc0 hc1
      go_wp2_with fail
      refine (grow_both _ n (by have := HN.out; omega)).mono ?_
      rintro e w2 ⟨v0, rfl, hown, hb⟩
      rw [HG.out] at hown hb
      have hBG := HB.out
      rw [HG.out] at hBG
      go_wp2
      go_loopw [6, 27] (fun v i wr => ∃ k : Nat, k ≤ 2 ∧ i = .int .i64 (k : Nat) ∧ wr.ownsRow G 5 1 v (lenK n1 n k) ((catL xs ys k).map W8) ∧ Below G w wr) (fun _ i _ => 2 - (intOf i).toNat)
      case atStart => exact ⟨0, by decide, rfl, hown, hb⟩
      case round =>
        clear hown hb
        obtain ⟨k, hk, rfl, hown, hbr⟩ := hrel
        rcases (by omega : k = 0 ∨ k = 1 ∨ k = 2) with rfl | rfl | rfl
        all_goals simp only [catL, lenK] at hown
        · have hcc : wr.cell? ⟨g, 0, none⟩ = some (.slice A1 n1 c1) := (HR.out.below hbr (by have := HGL.out; have := HG.out; omega)).at_ rfl
          have hsl := HS1.out.below (hbr.mono hBG)
          have hz := HZ1.out
          have hGs : G ≤ wr.heap.size := by have := hbr.size; have := HG.out; omega
          have HBR := Lib.hid hbr
          have HGS := Lib.hid hGs
          clear hbr
          go_wp2_with (at_builtin; refine wlv_append Tryd.elem8 rfl _ _ rfl G _ 0 (([] : List (BitVec 8)).map W8) rfl hown A1 n1 c1 _ rfl hz B hsl (ones8 _) (by have := HN.out; omega) hGs ?_; intro v3 w3 hown3 hgr)
          have hb3 := HBR.out.grown hgr HGS.out (fun q hq => (hown.lt q hq).1)
          have HO3 := Lib.hid hown3
          have HB3 := Lib.hid hb3
          clear hown3 hgr hb3 hown hsl
          go_wp2
          go_roundw
          case rel => exact ⟨1, by decide, rfl, by have h := HO3.out; have hn := HN.out; simpa [catL, lenK, hn] using h, HB3.out⟩
          case measure => decide
        · have hcc : wr.cell? ⟨g, 1, none⟩ = some (.slice A2 n2 c2) := (HR.out.below hbr (by have := HGL.out; have := HG.out; omega)).at_ rfl
          have hsl := HS2.out.below (hbr.mono hBG)
          have hz := HZ2.out
          have hGs : G ≤ wr.heap.size := by have := hbr.size; have := HG.out; omega
          have HBR := Lib.hid hbr
          have HGS := Lib.hid hGs
          clear hbr
          go_wp2_with (at_builtin; refine wlv_append Tryd.elem8 rfl _ _ rfl G _ n1 (xs.map W8) rfl hown A2 n2 c2 _ rfl hz B hsl (ones8 _) (by have := HN.out; omega) hGs ?_; intro v3 w3 hown3 hgr)
          have hb3 := HBR.out.grown hgr HGS.out (fun q hq => (hown.lt q hq).1)
          have HO3 := Lib.hid hown3
          have HB3 := Lib.hid hb3
          clear hown3 hgr hb3 hown hsl
          go_wp2
          go_roundw
          case rel => exact ⟨2, by decide, rfl, by have h := HO3.out; have hn := HN.out; simpa [catL, lenK, hn] using h, HB3.out⟩
          case measure => decide
        · go_wp2
          go_ret
          rw [HG.out]
          exact ⟨_, rfl, hown, hbr⟩
end Go.Proofs.YtnpaidieijlkkaaDoor

/- hashes: Chunks. -/
set_option linter.unusedVariables false
set_option linter.unusedSimpArgs false
namespace Go.Proofs.YtnpaidieijlkkaaDoor
open Go.RowKit Go.Shelf

/-- what Clone hands out -/
theorem clone_all (w : World) (B : Nat) (A : Option Addr) (n c : Nat) (bs : List (BitVec 8)) (hs : SlV w B A n c (bs.map W8)) (hz : A = none → c = 0) (hB : B ≤ w.heap.size) (hn : n ≤ 17592186044416) :
    Calls Tryd.prog 51 #[.slice A n c] w fun e w' => ∃ v, e = .returned v ∧ w'.ownsRow w.heap.size 5 1 v n (bs.map W8) ∧ Below w.heap.size w w' := by
  cases A with
  | some p => exact clone_any w B p n c bs hs hB hn
  | none =>
    obtain rfl := hz rfl
    obtain rfl : n = 0 := by have := hs.cap; omega
    have hl := hs.len
    obtain rfl : bs = [] := List.eq_nil_of_length_eq_zero (by simpa using hl.symm)
    refine (clone_nil w).mono ?_
    rintro e w' ⟨rfl, rfl⟩
    exact ⟨_, rfl, ⟨rfl, .inl ⟨rfl, rfl⟩⟩, Below.refl _ _⟩
theorem own_keep {w w' : World} {base : Nat} {e : TypeId} {v : Value} {n : Nat} {vs : List Value} (h : w.ownsRow base e 1 v n vs) (hk : ∀ q, v.ownBlock = some q → w'.heap[q]? = w.heap[q]?) : w'.ownsRow base e 1 v n vs :=
  ⟨h.1, h.2.imp id (fun ⟨g, cap, cur, hv, hb, hh, r⟩ => ⟨g, cap, cur, hv, hb, (hk g (by rw [hv]; rfl)).trans hh, r⟩)⟩
set_option maxRecDepth 100000 in
set_option maxHeartbeats 1000000 in
theorem chunks_any (w : World) (B : Nat) (A : Option Addr) (n c : Nat) (bs : List (BitVec 8)) (hs : SlV w B A n c (bs.map W8)) (hz : A = none → c = 0) (hB : B ≤ w.heap.size) (hn : n ≤ 17592186044416) (k : Int) :
    Calls Tryd.prog 102 #[.slice A n c, .int .i64 k] w fun e w' => ∃ g1 g2 v, e = .returned (.func (.func 130) #[] #[.pointer (some ⟨g1, 0, none⟩), .pointer (some ⟨g2, 0, none⟩)]) ∧ w.heap.size ≤ g1 ∧ g1 < g2 ∧
      RowV 3 w' g1 [.int .i64 k] ∧ RowV 22 w' g2 [v] ∧ w'.ownsRow (w.heap.size + 1) 5 1 v n (bs.map W8) ∧ v.ownBlock ≠ some g2 ∧ Below w.heap.size w w' := by
  obtain ⟨W1, e1, r1, b1, z1⟩ := newV w 3 [.int .i64 k] #[.int .i64 k] rfl
  have hc := clone_all W1 B A n c bs (hs.below (b1.mono hB)) hz (by omega) hn
  rw [z1] at hc
  obtain ⟨g1, hg1⟩ : ∃ g, w.heap.size = g := ⟨_, rfl⟩
  rw [hg1] at r1 b1 hc z1
  have HC := Lib.hid hc
  have HG := Lib.hid hg1
  have HB := Lib.hid b1
  have HR := Lib.hid r1
  have HZ := Lib.hid z1
  clear hc hs r1 b1 hz z1
  go_enter Tryd.func102, Tryd.ntmps102
  go_wp2_with fail
  refine HC.out.mono ?_
  rintro e w2 ⟨v, rfl, hown, hb⟩
  obtain ⟨A', c', rfl, hsl', hlow, _⟩ := SlV.of_own hown
  clear hsl' hlow
  obtain ⟨W3, e3, r3, b3, z3⟩ := newV w2 22 [.slice none 0 0] #[.slice none 0 0] rfl
  have hcl : W3.cell? ⟨w2.heap.size, 0, none⟩ = some (.slice none 0 0) := r3.at_ rfl
  have hfz := r3.frozen 0
  obtain ⟨g2, hg2⟩ : ∃ g, w2.heap.size = g := ⟨_, rfl⟩
  have HOWN := Lib.hid hown
  have HBB := Lib.hid hb
  have HR3 := Lib.hid r3
  have HB3 := Lib.hid b3
  rw [hg2] at hcl hfz
  clear hown hb r3 b3 z3
  go_wp2
  go_ret
  have hb2 := HBB.out
  have hb3 := HB3.out
  have hlt := HOWN.out.lt
  have hs1 := HZ.out
  have hs2 := hb2.size
  have hg1' := HG.out
  have hr3 := HR3.out
  rw [hg2] at hr3 hb3 hs2
  refine ⟨g1, g2, .slice A' n c', rfl, by omega, by omega, ?_, hr3.set 0 _, ?_, ?_, ?_⟩
  · exact ((HR.out.below hb2 (by omega)).below hb3 (by omega)).far (by show g1 ≠ g2; omega) _
  · rw [hg1']
    refine own_keep HOWN.out fun q hq => ?_
    have hq2 := (hlt q hq).2
    rw [hg2] at hq2
    exact (Below.heap_setCell W3 ⟨g2, 0, none⟩ _ q (by show q ≠ g2; omega)).trans (hb3.block q hq2)
  · intro hq
    have := (hlt g2 hq).2
    omega
  · rw [hg1']
    exact below_setV (HB.out.trans ((hb2.mono (by omega)).trans (hb3.mono (by omega)))) (by omega) 0 _
end Go.Proofs.YtnpaidieijlkkaaDoor

/- hashes: counter. -/
set_option linter.unusedVariables false
set_option linter.unusedSimpArgs false
namespace Go.Proofs.YtnpaidieijlkkaaDoor
open Go.RowKit Go.Shelf

/-- a number's four bytes -/
def counterL (i : Nat) : List (BitVec 8) := [byteAt i 3, byteAt i 2, byteAt i 1, byteAt i 0]
set_option maxRecDepth 100000 in
set_option maxHeartbeats 1000000 in
theorem counter_any (w : World) (i : Nat) (hi : i < 9223372036854775808) :
    Calls Tryd.prog 108 #[.int .i64 (i : Int)] w fun e w' => e = .returned (.slice (some ⟨w.heap.size, 0, none⟩) 4 4) ∧ RowV 5 w' w.heap.size ((counterL i).map W8) ∧ Below w.heap.size w w' := by
  obtain ⟨W1, e1, r1, b1, z1⟩ := newV w 5 ((counterL i).map W8) #[W8 (byteAt i 3), W8 (byteAt i 2), W8 (byteAt i 1), W8 (byteAt i 0)] rfl
  obtain ⟨q3, h3⟩ : ∃ q, i / 256 ^ 3 = q := ⟨_, rfl⟩
  obtain ⟨q2, h2⟩ : ∃ q, i / 256 ^ 2 = q := ⟨_, rfl⟩
  obtain ⟨q1, h1⟩ : ∃ q, i / 256 ^ 1 = q := ⟨_, rfl⟩
  have k3 := i8_byteAt i 3
  have k2 := i8_byteAt i 2
  have k1 := i8_byteAt i 1
  have k0 := i8_byteAt i 0
  rw [h3] at k3
  rw [h2] at k2
  rw [h1] at k1
  rw [Nat.pow_zero, Nat.div_one] at k0
  have j3 : (i : Int) / 16777216 = (q3 : Int) := by omega
  have j2 : (i : Int) / 65536 = (q2 : Int) := by omega
  have j1 : (i : Int) / 256 = (q1 : Int) := by omega
  have l3 : (q3 : Int) ≤ 9223372036854775807 := by omega
  have l2 : (q2 : Int) ≤ 9223372036854775807 := by omega
  have l1 : (q1 : Int) ≤ 9223372036854775807 := by omega
  have l0 : (i : Int) ≤ 9223372036854775807 := by omega
  obtain ⟨g, hg⟩ : ∃ g, w.heap.size = g := ⟨_, rfl⟩
  rw [hg] at r1 b1
  have HR := Lib.hid r1
  have HB := Lib.hid b1
  have HG := Lib.hid hg
  clear h3 h2 h1 r1 b1 z1 hi
  go_enter Tryd.func108, Tryd.ntmps108
  go_wp2
  go_ret
  rw [HG.out]
  first | exact ⟨rfl, HR.out, HB.out⟩ | (rw [e1]; exact ⟨rfl, HR.out, HB.out⟩)
end Go.Proofs.YtnpaidieijlkkaaDoor

/- hashes: masked. -/
set_option linter.unusedVariables false
set_option linter.unusedSimpArgs false
namespace Go.Proofs.YtnpaidieijlkkaaDoor
open Go.RowKit Go.Shelf

/-- the key with zeros up to n bytes -/
def padK (bs : List (BitVec 8)) (n : Nat) : List (BitVec 8) := bs ++ List.replicate (n - bs.length) 0
def maskL (bs : List (BitVec 8)) (x : BitVec 8) (n : Nat) : List (BitVec 8) := (padK bs n).map (· ^^^ x)
theorem padK_length (bs : List (BitVec 8)) (n : Nat) (h : bs.length ≤ n) : (padK bs n).length = n := by simp [padK]; omega
theorem splice_padK (bs : List (BitVec 8)) (n : Nat) (h : bs.length ≤ n) : splice (List.replicate n (Value.int .u8 0)) 0 (bs.map W8) = (padK bs n).map W8 := by
  simp [splice, padK, List.map_append, List.map_replicate]
  exact .inr rfl
theorem copy_pos {w w1 : World} {B : Nat} {A : Option Addr} {m c g : Nat} {vs : List Value} (hs : SlV w B A m c vs) (hb : Below B w w1) : 0 < vs.length → (some ⟨g, 0, none⟩ : Option Addr) = some ⟨g, 0, none⟩ ∧ ∃ ad, A = some ad ∧ ∀ j v, vs[j]? = some v → w1.cell? (ad.add j) = some v := fun h => by
  obtain ⟨b, off, e, _, hc⟩ := (hs.below hb).2.2.2 (by intro e; subst e; simp at h)
  refine ⟨rfl, _, e, fun j v hv => ?_⟩
  rw [Addr.add_lit]
  exact hc j v hv
set_option maxRecDepth 100000 in
set_option maxHeartbeats 1000000 in
theorem masked_any (w : World) (B : Nat) (A : Option Addr) (m c : Nat) (bs : List (BitVec 8)) (hs : SlV w B A m c (bs.map W8)) (hB : B ≤ w.heap.size) (x : BitVec 8) (n : Nat) (hmn : m ≤ n) (hn : n ≤ 17592186044416) :
    Calls Tryd.prog 157 #[.slice A m c, W8 x, .int .i64 (n : Int)] w fun e w' => e = .returned (.slice (some ⟨w.heap.size, 0, none⟩) n n) ∧ RowV 5 w' w.heap.size ((maskL bs x n).map W8) ∧ Below w.heap.size w w' := by
  have hl : bs.length = m := by simpa using hs.len.symm
  obtain ⟨i0, hi, hz0, hz1, hz2⟩ := info_parts Tryd.elem8.info
  have hsz : (Tryd.prog.info? 5).map (·.size) = some 1 := by rw [hi]; simp [hz1]
  have i1 : (n : Int) ≤ 17592186044416 := by omega
  obtain ⟨g, hg⟩ : ∃ g, w.heap.size = g := ⟨_, rfl⟩
  obtain ⟨M, hM⟩ : ∃ M, maskL bs x n = M := ⟨_, rfl⟩
  obtain ⟨X, hX⟩ : ∃ X, padK bs n = X := ⟨_, rfl⟩
  have hXl : X.length = n := by rw [← hX]; exact padK_length bs n (by omega)
  have hMl : M.length = n := by rw [← hM, maskL, List.length_map, padK_length bs n (by omega)]
  have hMX : M = X.map (· ^^^ x) := by rw [← hM, ← hX]; rfl
  have hsp := splice_padK bs n (by omega)
  rw [hX] at hsp
  rw [hM]
  have HG := Lib.hid hg
  have HB := Lib.hid hB
  have HS := Lib.hid hs
  have HX := Lib.hid hXl
  have HM := Lib.hid hMl
  have HMX := Lib.hid hMX
  have HSP := Lib.hid hsp
  have HN := Lib.hid (⟨hmn, hn, hl⟩ : m ≤ n ∧ n ≤ 17592186044416 ∧ bs.length = m)
  have HSZ := Lib.hid hsz
  have HBG := Lib.hid (show B ≤ g by omega)
  have HLN := Lib.hid (show (bs.map W8).length = Nat.min m n by rw [List.length_map, hl]; exact (Nat.min_eq_left hmn).symm)
  have HFT := Lib.hid (show 0 + (bs.map W8).length ≤ (List.replicate n (Value.int .u8 0)).length by simp; omega)
  clear hi hz0 hz1 hz2 hM hX hXl hMl hMX hsp hs hB hmn hn hl hsz
  go_enter Tryd.func157, Tryd.ntmps157
  go_wp2_with (first | (at_make; refine wlv_make Tryd.elem8 rfl _ rfl _ n rfl rfl HN.out.2.1 ?_; intro w1 hr1 hb1 hz1; rw [hg] at hr1 hb1) | ((with_reducible show wpList _ _ _ _ _ _); refine wpList_copy_splice (o := ⟨some 13, _, _, _, _, _⟩) rfl _ _ 22 22 rfl 5 Tryd.underlying22 HSZ.out _ _ n n m c rfl rfl g 0 (List.replicate n (.int .u8 0)) 5 ?h1 (bs.map W8) ?h2 ?h3 ?h4 ?h5 g w ?h6 ?h7 ?_; (case h1 => first | exact hr1 | (unfold RowV at hr1; exact hr1) | (simp only [RowV] at hr1; exact hr1)); (case h2 => exact HLN.out); (case h3 => exact copy_pos HS.out (hb1.mono HBG.out)); (case h4 => exact HFT.out); (case h5 => exact ones8 bs); (case h6 => exact hb1); (case h7 => exact Nat.le_refl _); intro w2 hr2 hb2))
  have hr3 : RowV 5 w2 g (X.map W8) := by
    have h := hr2.out
    rw [HSP.out] at h
    exact h
  clear hr1 hb1 hz1 hr2 hg
  go_loopw [16] (fun i wr => ∃ k : Nat, k ≤ n ∧ i = .int .i64 (k : Int) ∧ RowV 5 wr g ((M.take k ++ X.drop k).map W8) ∧ Below g w wr) (fun i _ => n - (intOf i).toNat)
  case atStart => exact ⟨0, by omega, rfl, by simpa using hr3, hb2⟩
  case round =>
    clear hr3 hb2
    obtain ⟨k, hk, rfl, hr, hb⟩ := hrel
    by_cases hkn : k = n
    · subst hkn
      rw [List.take_of_length_le (Nat.le_of_eq HM.out), List.drop_eq_nil_of_le (Nat.le_of_eq HX.out), List.append_nil] at hr
      have HR := Lib.hid hr
      have HBB := Lib.hid hb
      clear hr hb
      go_wp2
      go_ret
      rw [HG.out]
      exact ⟨rfl, HR.out, HBB.out⟩
    · have hki : (k : Int) < n := by omega
      have hXk : k < X.length := by have := HX.out; omega
      obtain ⟨y, hy⟩ : ∃ y, X[k]? = some y := ⟨_, List.getElem?_eq_getElem hXk⟩
      have hMk : M[k]? = some (y ^^^ x) := by rw [HMX.out, List.getElem?_map, hy]; rfl
      have hcl : wr.cell? ⟨g, k, none⟩ = some (W8 y) := hr.at_ (by rw [List.getElem?_map, mid_get _ _ _ (by have := HM.out; omega), hy]; rfl)
      have hfz := hr.frozen k
      have hr2 := hr.set k (W8 (y ^^^ x))
      rw [← List.map_set, mid_set _ _ _ _ hMk hXk] at hr2
      have hB2 := below_setV hb (Nat.le_refl g) k (W8 (y ^^^ x))
      have hxo := b8_xor y x
      have HR2 := Lib.hid hr2
      have HB2 := Lib.hid hB2
      clear hr2 hB2 hr hb hXk hy hMk
      go_wp2
      go_roundw
      case rel => exact ⟨k + 1, by omega, by go_num, HR2.out, HB2.out⟩
      case measure => simp [intOf]; omega
end Go.Proofs.YtnpaidieijlkkaaDoor

/- Plain numbers: lists of digits, the lowest first. Nothing of the program. -/
namespace Go.Proofs.YtnpaidieijlkkaaDoor
/-- the value of digits in base B, the lowest first -/
def V (B : Nat) : List Nat → Nat
  | [] => 0
  | x :: r => x + B * V B r
/-- all below B -/
def Dg (B : Nat) (xs : List Nat) : Prop := ∀ x ∈ xs, x < B
/-- no nought at the end -/
def Nz (xs : List Nat) : Prop := ∀ x, xs.getLast? = some x → x ≠ 0
/-- the normal form of n in base B -/
def Nm (B : Nat) (xs : List Nat) (n : Nat) : Prop := Dg B xs ∧ Nz xs ∧ V B xs = n

theorem V_nil (B : Nat) : V B [] = 0 := rfl
theorem V_cons (B x : Nat) (r : List Nat) : V B (x :: r) = x + B * V B r := rfl
theorem V_append (B : Nat) (a b : List Nat) : V B (a ++ b) = V B a + B ^ a.length * V B b := by
  induction a with
  | nil => simp [V]
  | cons x r ih => simp only [List.cons_append, V, ih, List.length_cons, Nat.pow_succ]; rw [Nat.mul_add, ← Nat.mul_assoc, Nat.mul_comm B (B ^ _)]; omega
theorem V_lt {B : Nat} (xs : List Nat) (h : Dg B xs) : V B xs < B ^ xs.length := by
  induction xs with
  | nil => simp [V]
  | cons x r ih =>
    have h1 := ih fun y hy => h y (by simp [hy])
    have h2 := h x (by simp)
    simp only [V, List.length_cons, Nat.pow_succ]
    have h3 : B * (V B r + 1) ≤ B * B ^ r.length := Nat.mul_le_mul_left _ h1
    rw [Nat.mul_add, Nat.mul_one] at h3
    rw [Nat.mul_comm (B ^ _) B]
    omega
theorem Dg.append {B : Nat} {a b : List Nat} (ha : Dg B a) (hb : Dg B b) : Dg B (a ++ b) := fun x hx => by
  rcases List.mem_append.1 hx with h | h
  · exact ha x h
  · exact hb x h
theorem Dg.take {B : Nat} {a : List Nat} (ha : Dg B a) (n : Nat) : Dg B (a.take n) := fun x hx => ha x (List.mem_of_mem_take hx)
theorem Dg.drop {B : Nat} {a : List Nat} (ha : Dg B a) (n : Nat) : Dg B (a.drop n) := fun x hx => ha x (List.mem_of_mem_drop hx)
theorem Dg.get {B : Nat} {a : List Nat} (ha : Dg B a) {k x : Nat} (h : a[k]? = some x) : x < B := ha x (List.mem_of_getElem? h)
theorem Dg.set {B : Nat} {a : List Nat} (ha : Dg B a) (i : Nat) {x : Nat} (hx : x < B) : Dg B (a.set i x) := fun y hy => by
  rcases List.mem_or_eq_of_mem_set hy with h | h
  · exact ha y h
  · exact h ▸ hx
theorem V_replicate (B n : Nat) : V B (List.replicate n 0) = 0 := by
  induction n with
  | zero => rfl
  | succ n ih => simp [List.replicate_succ, V, ih]
theorem V_zeros {B : Nat} (a : List Nat) (n : Nat) : V B (a ++ List.replicate n 0) = V B a := by rw [V_append, V_replicate]; simp
theorem V_take_succ {B : Nat} {a : List Nat} {k x : Nat} (h : a[k]? = some x) : V B (a.take (k + 1)) = V B (a.take k) + B ^ k * x := by
  have hk : k < a.length := (List.getElem?_eq_some_iff.1 h).1
  rw [List.take_add_one, h, V_append]
  simp [V, Nat.min_eq_left (Nat.le_of_lt hk)]
theorem V_split {B : Nat} (a : List Nat) (k : Nat) : V B a = V B (a.take k) + B ^ (min k a.length) * V B (a.drop k) := by
  conv => lhs; rw [← List.take_append_drop k a]
  rw [V_append, List.length_take]
theorem V_eq_zero {B : Nat} {a : List Nat} (hB : 0 < B) (h : V B a = 0) : ∀ x ∈ a, x = 0 := by
  induction a with
  | nil => intro x hx; cases hx
  | cons y r ih =>
    simp only [V] at h
    have h2 : V B r = 0 := by
      rcases Nat.mul_eq_zero.1 (show B * V B r = 0 by omega) with h | h
      · omega
      · exact h
    intro x hx
    rcases List.mem_cons.1 hx with h3 | h3
    · omega
    · exact ih h2 x h3

/-- two normal forms of one number are one -/
theorem nm_unique {B : Nat} (hB : 1 < B) : ∀ {a b : List Nat} {n : Nat}, Nm B a n → Nm B b n → a = b := by
  intro a
  induction a with
  | nil =>
    intro b n ha hb
    cases b with
    | nil => rfl
    | cons y r =>
      exfalso
      have h0 : V B (y :: r) = 0 := by rw [hb.2.2, ← ha.2.2]; rfl
      have hz := V_eq_zero (by omega) h0
      obtain ⟨l, hl⟩ : ∃ l, (y :: r).getLast? = some l := ⟨_, List.getLast?_cons⟩
      exact hb.2.1 l hl (hz l (List.mem_of_getLast? hl))
  | cons x a ih =>
    intro b n ha hb
    cases b with
    | nil =>
      exfalso
      have h0 : V B (x :: a) = 0 := by rw [ha.2.2, ← hb.2.2]; rfl
      have hz := V_eq_zero (by omega) h0
      obtain ⟨l, hl⟩ : ∃ l, (x :: a).getLast? = some l := ⟨_, List.getLast?_cons⟩
      exact ha.2.1 l hl (hz l (List.mem_of_getLast? hl))
    | cons y b =>
      have hx := ha.1 x (by simp)
      have hy := hb.1 y (by simp)
      have e : x + B * V B a = y + B * V B b := by have h1 := ha.2.2; have h2 := hb.2.2; simp only [V] at h1 h2; omega
      have exy : x = y := by
        have h1 := congrArg (· % B) e
        simpa [Nat.add_mul_mod_self_left, Nat.mod_eq_of_lt hx, Nat.mod_eq_of_lt hy] using h1
      have ev : V B a = V B b := by
        have : B * V B a = B * V B b := by omega
        exact Nat.eq_of_mul_eq_mul_left (by omega) this
      have na : Nm B a (V B a) := ⟨fun z hz => ha.1 z (by simp [hz]), fun l hl => by
        cases a with
        | nil => cases hl
        | cons u a => exact ha.2.1 l (by rw [List.getLast?_cons_cons]; exact hl), rfl⟩
      have nb : Nm B b (V B a) := ⟨fun z hz => hb.1 z (by simp [hz]), fun l hl => by
        cases b with
        | nil => cases hl
        | cons u b => exact hb.2.1 l (by rw [List.getLast?_cons_cons]; exact hl), ev.symm⟩
      rw [exy, ih na nb]

/-- a number without noughts at the end is not below its highest place -/
theorem V_ge {B : Nat} {a : List Nat} (hz : Nz a) (hn : a ≠ []) : B ^ (a.length - 1) ≤ V B a := by
  induction a with
  | nil => exact absurd rfl hn
  | cons x r ih =>
    cases r with
    | nil =>
      have := hz x (by simp)
      simp [V]; omega
    | cons y r =>
      have h1 := ih (fun l hl => hz l (by rw [List.getLast?_cons_cons]; exact hl)) (by simp)
      simp only [V, List.length_cons, Nat.add_sub_cancel] at h1 ⊢
      rw [Nat.pow_succ, Nat.mul_comm]
      have := Nat.mul_le_mul_left B h1
      omega

/-- a shorter normal form is the smaller number -/
theorem lt_of_length {B : Nat} {a b : List Nat} (ha : Dg B a) (hB : 1 < B) (hz : Nz b) (h : a.length < b.length) : V B a < V B b := by
  have h1 := V_lt a ha
  have h2 := V_ge (B := B) hz (by intro e; subst e; simp at h)
  have h3 : B ^ a.length ≤ B ^ (b.length - 1) := Nat.pow_le_pow_right (by omega) (by omega)
  omega

/-- where the last nought-free prefix ends -/
def trimL (xs : List Nat) : Nat → Nat
  | 0 => 0
  | n + 1 => if xs[n]?.getD 0 = 0 then trimL xs n else n + 1
theorem trimL_le (xs : List Nat) (n : Nat) : trimL xs n ≤ n := by
  induction n with
  | zero => exact Nat.le_refl _
  | succ n ih => simp only [trimL]; split <;> omega
theorem trimL_zero {xs : List Nat} {n : Nat} (h : xs[n]? = some 0) : trimL xs (n + 1) = trimL xs n := by simp [trimL, h]
theorem trimL_pos {xs : List Nat} {n x : Nat} (h : xs[n]? = some x) (hx : x ≠ 0) : trimL xs (n + 1) = n + 1 := by simp [trimL, h, hx]
theorem V_trim (B : Nat) (xs : List Nat) : ∀ n, n ≤ xs.length → V B (xs.take (trimL xs n)) = V B (xs.take n) := by
  intro n
  induction n with
  | zero => intro _; rfl
  | succ n ih =>
    intro h
    obtain ⟨x, hx⟩ : ∃ x, xs[n]? = some x := ⟨_, List.getElem?_eq_getElem (by omega)⟩
    by_cases h0 : x = 0
    · subst h0
      rw [trimL_zero hx, ih (by omega), V_take_succ hx]; simp
    · rw [trimL_pos hx h0]
theorem Nz_trim (xs : List Nat) : ∀ n, n ≤ xs.length → Nz (xs.take (trimL xs n)) := by
  intro n
  induction n with
  | zero => intro _ x hx; simp [trimL] at hx
  | succ n ih =>
    intro h
    obtain ⟨x, hx⟩ : ∃ x, xs[n]? = some x := ⟨_, List.getElem?_eq_getElem (by omega)⟩
    by_cases h0 : x = 0
    · subst h0
      rw [trimL_zero hx]; exact ih (by omega)
    · rw [trimL_pos hx h0]
      intro y hy
      rw [List.take_add_one, hx] at hy
      simp at hy
      omega
/-- the digits without the noughts at the end -/
def trimmed (xs : List Nat) : List Nat := xs.take (trimL xs xs.length)
theorem trimmed_nm {B : Nat} {xs : List Nat} (h : Dg B xs) : Nm B (trimmed xs) (V B xs) :=
  ⟨h.take _, Nz_trim xs _ (Nat.le_refl _), by unfold trimmed; rw [V_trim B xs _ (Nat.le_refl _), List.take_length]⟩
theorem trimmed_length (xs : List Nat) : (trimmed xs).length = trimL xs xs.length := by
  unfold trimmed; rw [List.length_take]; exact Nat.min_eq_left (trimL_le _ _)
theorem trimmed_get {xs : List Nat} {k x : Nat} (h : (trimmed xs)[k]? = some x) : xs[k]? = some x := by
  unfold trimmed at h
  rw [List.getElem?_take] at h
  split at h
  · exact h
  · cases h
/-- 2^32, 2^64, behind a name -/
def b32 : Nat := 4294967296
def b64 : Nat := 18446744073709551616
theorem b32_eq : b32 = 4294967296 := rfl
theorem b64_eq : b64 = b32 * b32 := by decide
theorem b32_pos : 0 < b32 := by decide
theorem b64_pos : 0 < b64 := by decide
theorem lt32 {x : Nat} : x < b32 ↔ x < 4294967296 := Iff.rfl
theorem lt64 {x : Nat} : x < b64 ↔ x < 18446744073709551616 := Iff.rfl

theorem take_set_le {zs : List Nat} {i k : Nat} (x : Nat) (h : k ≤ i) : (zs.set i x).take k = zs.take k := by
  apply List.ext_getElem?
  intro j
  rw [List.getElem?_take, List.getElem?_take]
  split
  · rw [List.getElem?_set_ne (by omega)]
  · rfl
/-- a digit set behind the k lowest -/
theorem V_set_take {B : Nat} {zs : List Nat} {k : Nat} (x : Nat) (h : k < zs.length) : V B ((zs.set k x).take (k + 1)) = V B (zs.take k) + B ^ k * x := by
  rw [V_take_succ (x := x) (by simp [h]), take_set_le x (Nat.le_refl _)]
theorem set_get {zs : List Nat} {i : Nat} (x : Nat) (h : i < zs.length) : (zs.set i x)[i]? = some x := by simp [h]
theorem get_lt {zs : List Nat} {k : Nat} (h : k < zs.length) : ∃ x, zs[k]? = some x := ⟨_, List.getElem?_eq_getElem h⟩
/-- as many digits as the number wants, and no fewer: the last is not 0 -/
theorem Nz_of_ge {B : Nat} {a : List Nat} (hd : Dg B a) (h : B ^ (a.length - 1) ≤ V B a) : Nz a := by
  intro x hx e
  subst e
  obtain ⟨r, rfl⟩ : ∃ r, a = r ++ [0] := by
    exact List.getLast?_eq_some_iff.1 hx
  rw [V_append] at h
  simp [V] at h
  have := V_lt r (fun y hy => hd y (by simp [hy]))
  omega
theorem Nm.length_le {B : Nat} {a : List Nat} {n k : Nat} (hB : 1 < B) (h : Nm B a n) (hn : n < B ^ k) : a.length ≤ k := by
  rcases Nat.lt_or_ge k a.length with hlt | hge
  · exfalso
    have h1 := V_ge (B := B) h.2.1 (by intro e; subst e; simp at hlt)
    rw [h.2.2] at h1
    have h2 : B ^ k ≤ B ^ (a.length - 1) := Nat.pow_le_pow_right (by omega) (by omega)
    omega
  · exact hge
end Go.Proofs.YtnpaidieijlkkaaDoor

/- Words for memory: slices of uint64 that read as lists of natural numbers. -/
namespace Go.Proofs.YtnpaidieijlkkaaDoor
open Go.RowKit

/-- a uint64 -/
abbrev U (x : Nat) : Value := .int .u64 (x : Int)

/-- from the address A on, in a block below B, lie the numbers xs -/
def Rd (w : World) (B : Nat) (A : Option Addr) (xs : List Nat) : Prop :=
  xs ≠ [] → ∃ b off, A = some ⟨b, off, none⟩ ∧ b < B ∧ ∀ (k x : Nat), xs[k]? = some x → w.cell? ⟨b, off + k, none⟩ = some (.int .u64 (x : Int))

theorem Rd.below {w w' : World} {B : Nat} {A : Option Addr} {xs : List Nat} (h : Rd w B A xs) (hb : Below B w w') : Rd w' B A xs := fun hn => by
  obtain ⟨b, off, e, hlt, hc⟩ := h hn
  exact ⟨b, off, e, hlt, fun k x hx => (hb.cell (p := ⟨b, off + k, none⟩) hlt).trans (hc k x hx)⟩
theorem Rd.more {w : World} {B B' : Nat} {A : Option Addr} {xs : List Nat} (h : Rd w B A xs) (hB : B ≤ B') : Rd w B' A xs := fun hn => by
  obtain ⟨b, off, e, hlt, hc⟩ := h hn
  exact ⟨b, off, e, Nat.lt_of_lt_of_le hlt hB, hc⟩
/-- behind a call that turned nothing: read up to the new size -/
theorem Rd.later {w w' : World} {B : Nat} {A : Option Addr} {xs : List Nat} (h : Rd w w.heap.size A xs) (hb : Below w.heap.size w w') (hB : w'.heap.size ≤ B) : Rd w' B A xs :=
  (h.below hb).more (Nat.le_trans hb.size hB)
theorem Rd.nil (w : World) (B : Nat) (A : Option Addr) : Rd w B A [] := fun h => absurd rfl h
theorem Rd.take {w : World} {B : Nat} {A : Option Addr} {xs : List Nat} (h : Rd w B A xs) (n : Nat) : Rd w B A (xs.take n) := fun hn => by
  obtain ⟨b, off, e, hlt, hc⟩ := h (fun e => hn (by rw [e]; simp))
  refine ⟨b, off, e, hlt, fun k x hx => hc k x ?_⟩
  rw [List.getElem?_take] at hx
  split at hx
  · exact hx
  · cases hx
theorem Rd.at_ {w : World} {B : Nat} {A : Option Addr} {xs : List Nat} (h : Rd w B A xs) {k : Nat} (hk : k < xs.length) :
    ∃ b off x, A = some ⟨b, off, none⟩ ∧ b < B ∧ xs[k]? = some x ∧ w.cell? ⟨b, off + k, none⟩ = some (.int .u64 (x : Int)) := by
  obtain ⟨b, off, e, hlt, hc⟩ := h (by intro e; subst e; simp at hk)
  exact ⟨b, off, xs[k], e, hlt, List.getElem?_eq_getElem hk, hc k _ (List.getElem?_eq_getElem hk)⟩
theorem Rd.drewN {w : World} {B : Nat} {A : Option Addr} {xs : List Nat} (h : Rd w B A xs) (n : Nat) : Rd (w.drewN n) B A xs := h

/-- block g is, whole, the numbers zs -/
def Row (w : World) (g : Nat) (zs : List Nat) : Prop := w.heap[g]? = some (.cells (zs.map U).toArray 59 (0, 0))

theorem Row.lt {w : World} {g : Nat} {zs : List Nat} (h : Row w g zs) : g < w.heap.size := (Array.getElem?_eq_some_iff.1 h).1
theorem Row.cell {w : World} {g : Nat} {zs : List Nat} (h : Row w g zs) (i : Nat) : w.cell? ⟨g, i, none⟩ = (zs[i]?).map U := by
  rw [cell_of_row w g i _ _ (0, 0) h]; simp
theorem Row.at_ {w : World} {g : Nat} {zs : List Nat} (h : Row w g zs) {i x : Nat} (hx : zs[i]? = some x) : w.cell? ⟨g, i, none⟩ = some (.int .u64 (x : Int)) := by
  rw [h.cell, hx]; rfl
theorem Row.frozen {w : World} {g : Nat} {zs : List Nat} (h : Row w g zs) (i : Nat) : w.frozen? ⟨g, i, none⟩ = false := by
  unfold Row at h
  simp [World.frozen?, h]
theorem Row.set {w : World} {g : Nat} {zs : List Nat} (h : Row w g zs) (i x : Nat) : Row (w.setCell ⟨g, i, none⟩ (U x)) g (zs.set i x) := by
  unfold Row at h ⊢
  simp [World.setCell, Array.getElem?_modify, h, List.map_set]
theorem Row.below {w w' : World} {g B : Nat} {zs : List Nat} (h : Row w g zs) (hb : Below B w w') (hg : g < B) : Row w' g zs := (hb.block g hg).trans h
theorem Row.far {w : World} {g : Nat} {zs : List Nat} (h : Row w g zs) {p : Addr} (hp : g ≠ p.block) (u : Value) : Row (w.setCell p u) g zs := (Below.heap_setCell w p u g hp).trans h
theorem Row.rd {w : World} {g : Nat} {zs : List Nat} (h : Row w g zs) (off : Nat) (xs : List Nat) (hx : ∀ (k x : Nat), xs[k]? = some x → zs[off + k]? = some x) : Rd w w.heap.size (some ⟨g, off, none⟩) xs :=
  fun _ => ⟨g, off, rfl, h.lt, fun k x hk => h.at_ (hx k x hk)⟩
theorem Row.rd0 {w : World} {g : Nat} {zs : List Nat} (h : Row w g zs) : Rd w w.heap.size (some ⟨g, 0, none⟩) zs := h.rd 0 zs (by simp)

/-- nothing but block g (and what is new) has turned -/
abbrev Only (w w' : World) (g : Nat) : Prop := w.grownBy w' (some g)
theorem Only.refl (w : World) (g : Nat) : Only w w g := World.grownBy.refl w _
theorem Only.trans {a b c : World} {g : Nat} (h : Only a b g) (k : Only b c g) : Only a c g :=
  ⟨k.os.trans h.os, k.tape.trans h.tape, k.output.trans h.output, Nat.le_trans h.size k.size, fun i hi hn => (k.block i (Nat.lt_of_lt_of_le hi h.size) hn).trans (h.block i hi hn)⟩
theorem Only.set {a w : World} {g : Nat} (h : Only a w g) (i : Nat) (u : Value) : Only a (w.setCell ⟨g, i, none⟩ u) g :=
  h.trans ⟨rfl, rfl, rfl, by simp [World.setCell], fun k _ hn => Below.heap_setCell _ _ _ _ (fun e => hn (by rw [e]))⟩
theorem Only.of_below {a w : World} (h : Below a.heap.size a w) (g : Nat) : Only a w g := ⟨h.os, h.tape, h.output, h.size, fun i hi _ => h.block i hi⟩
theorem Only.drewN {a w : World} {g : Nat} (h : Only a w g) (n : Nat) : Only a (w.drewN n) g := ⟨h.os, h.tape, h.output, h.size, h.block⟩
/-- what lies below g has not turned -/
theorem Only.below {a w : World} {g B : Nat} (h : Only a w g) (hB : B ≤ g) (hs : B ≤ a.heap.size) : Below B a w :=
  ⟨h.os, h.tape, h.output, h.size, fun i hi => h.block i (by omega) (fun e => by injection e; omega)⟩
theorem below_drewN {B : Nat} {a w : World} (h : Below B a w) (n : Nat) : Below B a (w.drewN n) := ⟨h.os, h.tape, h.output, h.size, h.block⟩
theorem Row.drewN {w : World} {g : Nat} {zs : List Nat} (h : Row w g zs) (n : Nat) : Row (w.drewN n) g zs := h

/-- the slice from A on, of length n and capacity c, in a block below B, reads xs -/
def Sl (w : World) (B : Nat) (A : Option Addr) (n c : Nat) (xs : List Nat) : Prop :=
  n = xs.length ∧ n ≤ c ∧ c ≤ 9223372036854775807 ∧ Rd w B A xs
theorem Sl.len {w : World} {B n c : Nat} {A : Option Addr} {xs : List Nat} (h : Sl w B A n c xs) : n = xs.length := h.1
theorem Sl.cap {w : World} {B n c : Nat} {A : Option Addr} {xs : List Nat} (h : Sl w B A n c xs) : n ≤ c := h.2.1
theorem Sl.max {w : World} {B n c : Nat} {A : Option Addr} {xs : List Nat} (h : Sl w B A n c xs) : c ≤ 9223372036854775807 := h.2.2.1
theorem Sl.rd {w : World} {B n c : Nat} {A : Option Addr} {xs : List Nat} (h : Sl w B A n c xs) : Rd w B A xs := h.2.2.2
theorem Sl.below {w w' : World} {B n c : Nat} {A : Option Addr} {xs : List Nat} (h : Sl w B A n c xs) (hb : Below B w w') : Sl w' B A n c xs := ⟨h.1, h.2.1, h.2.2.1, h.rd.below hb⟩
theorem Sl.more {w : World} {B B' n c : Nat} {A : Option Addr} {xs : List Nat} (h : Sl w B A n c xs) (hB : B ≤ B') : Sl w B' A n c xs := ⟨h.1, h.2.1, h.2.2.1, h.rd.more hB⟩
theorem Sl.later {w w' : World} {B n c : Nat} {A : Option Addr} {xs : List Nat} (h : Sl w w.heap.size A n c xs) (hb : Below w.heap.size w w') (hB : w'.heap.size ≤ B) : Sl w' B A n c xs := ⟨h.1, h.2.1, h.2.2.1, h.rd.later hb hB⟩
theorem Sl.drewN {w : World} {B n c : Nat} {A : Option Addr} {xs : List Nat} (h : Sl w B A n c xs) (k : Nat) : Sl (w.drewN k) B A n c xs := h
theorem Sl.at_ {w : World} {B n c : Nat} {A : Option Addr} {xs : List Nat} (h : Sl w B A n c xs) {k : Nat} (hk : k < n) :
    ∃ b off x, A = some ⟨b, off, none⟩ ∧ b < B ∧ xs[k]? = some x ∧ w.cell? ⟨b, off + k, none⟩ = some (.int .u64 (x : Int)) := h.rd.at_ (by have := h.1; omega)
theorem Sl.nil (w : World) (B : Nat) (A : Option Addr) {c : Nat} (h : c ≤ 9223372036854775807) : Sl w B A 0 c [] := ⟨rfl, Nat.zero_le _, h, Rd.nil _ _ _⟩
theorem Sl.take {w : World} {B n c : Nat} {A : Option Addr} {xs : List Nat} (h : Sl w B A n c xs) {k : Nat} (hk : k ≤ n) : Sl w B A k c (xs.take k) :=
  ⟨by rw [List.length_take]; have := h.1; omega, by have := h.2.1; omega, h.2.2.1, h.rd.take k⟩
theorem Row.sl {w : World} {g : Nat} {zs : List Nat} (h : Row w g zs) (hz : zs.length ≤ 9223372036854775807) : Sl w w.heap.size (some ⟨g, 0, none⟩) zs.length zs.length zs :=
  ⟨rfl, Nat.le_refl _, hz, h.rd0⟩

/-- the function returns a slice that reads xs, all else being as it was -/
def RetS (w : World) (xs : List Nat) (e : Ending) (w' : World) : Prop :=
  ∃ A n c, e = .returned (.slice A n c) ∧ Sl w' w'.heap.size A n c xs ∧ Below w.heap.size w w'
/-- .. that reads the normal form of k in base B -/
def RetN (B : Nat) (w : World) (k : Nat) (e : Ending) (w' : World) : Prop :=
  ∃ xs, Nm B xs k ∧ RetS w xs e w'
end Go.Proofs.YtnpaidieijlkkaaDoor

/- limb.trim, the reference's trim. -/
namespace Go.Proofs.YtnpaidieijlkkaaDoor
open Go.RowKit

def lenOf : Value → Nat | .slice _ n _ => n | _ => 0

set_option maxHeartbeats 400000 in
theorem ltrim_any (w : World) (B : Nat) (A : Option Addr) (N c : Nat) (xs : List Nat) (hs : Sl w B A N c xs) :
    Calls Tryd.prog 90 #[.slice A N c] w fun e w' => e = .returned (.slice A (trimL xs N) c) ∧ w = w' := by
  have hlc := hs.cap
  have hm := hs.max
  have HL := Lib.hid hs.len
  go_enter Tryd.func90, Tryd.ntmps90
  go_wp2
  go_loop [0] (fun s => ∃ n, n ≤ N ∧ s = .slice A n c ∧ trimL xs n = trimL xs N) (fun s => lenOf s)
  case atStart => exact ⟨_, Nat.le_refl _, rfl, rfl⟩
  case round =>
    obtain ⟨n, hn, rfl, ht⟩ := hrel
    have HT := Lib.hid ht
    clear ht
    by_cases h0 : n = 0
    · subst h0
      go_wp2
      go_ret
      have := HT.out
      simp only [trimL] at this
      rw [← this]
      exact ⟨rfl, rfl⟩
    · obtain ⟨m, rfl⟩ : ∃ m, n = m + 1 := ⟨n - 1, by omega⟩
      obtain ⟨b, off, x, rfl, _, hx, hc⟩ := hs.at_ (k := m) (by omega)
      have hp : (0 : Int) < ((m + 1 : Nat) : Int) := by omega
      have HX := Lib.hid hx
      clear hx
      by_cases hz : x = 0
      · have hzb : (((x : Nat) : Int) == 0) = true := by simpa using hz
        have HZ := Lib.hid hz
        clear hz
        go_wp2
        go_round
        case rel => exact ⟨m, by omega, rfl, by rw [← HT.out, trimL_zero (by rw [HX.out, HZ.out])]⟩
        case measure => simp [lenOf]
      · have hzb : (((x : Nat) : Int) == 0) = false := by simpa using hz
        have HZ := Lib.hid hz
        clear hz
        go_wp2
        go_ret
        have h := HT.out
        rw [trimL_pos HX.out HZ.out] at h
        rw [← h]
        exact ⟨rfl, rfl⟩

theorem sl_trim {w : World} {B N c : Nat} {A : Option Addr} {xs : List Nat} (hs : Sl w B A N c xs) : Sl w B A (trimL xs N) c (trimmed xs) := by
  have h := hs.take (k := trimL xs N) (trimL_le _ _)
  unfold trimmed
  rw [← hs.len]
  exact h
theorem sl_trim2 {w : World} {B N c : Nat} {A : Option Addr} {xs : List Nat} (hs : Sl w B A N c xs) : Sl w B A (trimL xs N) (trimL xs N) (trimmed xs) := by
  have h := sl_trim hs
  exact ⟨h.len, Nat.le_refl _, Nat.le_trans h.cap h.max, h.rd⟩
/-- as callers want it -/
theorem ltrim_sl (w : World) (B : Nat) (A : Option Addr) (N c : Nat) (xs : List Nat) (hs : Sl w B A N c xs) :
    Calls Tryd.prog 90 #[.slice A N c] w fun e w' => ∃ m, e = .returned (.slice A m c) ∧ Sl w B A m c (trimmed xs) ∧ m ≤ N ∧ w = w' :=
  (ltrim_any w B A N c xs hs).mono fun _ _ ⟨he, hw⟩ => ⟨_, he, sl_trim hs, trimL_le _ _, hw⟩
end Go.Proofs.YtnpaidieijlkkaaDoor

/- The walk's laws for make, append and copy, in the words of Base. -/
namespace Go.Proofs.YtnpaidieijlkkaaDoor
open Go.RowKit

theorem Tryd.infoU : (Tryd.prog.info? 59).map (fun i => (i.zero, i.size, i.bytes)) = some (some (.int .u64 0), 1, 8) := by kernel_rfl

theorem oneCellU (xs : List Nat) : ∀ u ∈ xs.map U, u.oneCell' = true := by
  intro u hu
  obtain ⟨_, _, rfl⟩ := List.mem_map.1 hu
  rfl

/-- what is owned is read -/
theorem Sl.of_own {w : World} {base : Nat} {v : Value} {n : Nat} {xs : List Nat} (h : w.ownsRow base 59 1 v n (xs.map U)) :
    ∃ A c, v = .slice A n c ∧ Sl w w.heap.size A n c xs := by
  have hl : xs.length = n := by simpa using h.1
  rcases h.2 with ⟨rfl, rfl⟩ | ⟨g, cap, cur, rfl, _, hh, hnc, hcm, _, _⟩
  · obtain rfl : xs = [] := List.eq_nil_of_length_eq_zero hl
    exact ⟨none, 0, rfl, Sl.nil _ _ _ (by omega)⟩
  · subst hl
    refine ⟨some ⟨g, 0, none⟩, cap, rfl, rfl, hnc, by simpa [maxLen] using hcm, fun _ => ⟨g, 0, rfl, (Array.getElem?_eq_some_iff.1 hh).1, fun k x hx => ?_⟩⟩
    have hc := h.cells (g := g) rfl k (U x) (by simp [hx])
    rw [Addr.add_lit] at hc
    exact hc

/-- 'append(T(nil), x...)' -/
theorem wl_append_nil {w : World} {ops : Array Oper} {rest : List Oper} {o : Oper} {a : Act} {Q : Exit → Act → World → Prop} (hgd : o.guard = none) (x : Operand) (t : TypeId) (ht : Tryd.prog.underlying t = some (.slice 59))
    (ho : o.op = .call { callee := .builtin .append, args := #[.const (.slice none 0 0), x], argTypes := #[t, t] })
    (A : Option Addr) (m c : Nat) (xs : List Nat) (hx : a.eval x = .slice A m c) (B : Nat) (hs : Sl w B A m c xs) (hb : m ≤ 17592186044416)
    (h : ∀ A' c' w', Sl w' w'.heap.size A' m c' xs → Below w.heap.size w w' → wpList Tryd.prog ops Q rest (a.put o.dst (.slice A' m c')) w') : wpList Tryd.prog ops Q (o :: rest) a w := by
  obtain ⟨i0, hi, hz0, hz1, hz2⟩ := info_parts Tryd.infoU
  have hr := hs.rd
  have hm := hs.len
  subst hm
  have go : ∀ ad, A = some ad → (∀ j u, (xs.map U)[j]? = some u → w.cell? (ad.add j) = some u) → wpList Tryd.prog ops Q (o :: rest) a w := by
    rintro ad rfl hc
    refine wpList_append_own (w := w) hgd _ _ t ho w.heap.size 59 i0 (.int .u64 0) 1 8 ht hi hz0 hz1 hz2 rfl (by decide) (.slice none 0 0) 0 [] rfl (World.ownsRow_nil _ _ _ _)
      ad xs.length c (xs.map U) hx (by simp) hc (oneCellU xs) (by simp [maxLen]; omega) (by omega) (Nat.le_refl _) ?_
    intro v' w' hown hg _
    simp only [Nat.zero_add, List.nil_append] at hown
    obtain ⟨A', c', rfl, h1⟩ := Sl.of_own hown
    exact h A' c' w' h1 ((Below.refl _ _).grown hg (Nat.le_refl _) (fun k e => by simp [Value.ownBlock] at e))
  by_cases hn : xs = []
  · subst hn
    cases A with
    | none =>
      refine wpList_plain hgd fun K hK => ?_
      unfold Oper.wp
      have hrun : (Builtin.append_ #[t, t] o.type #[.slice none 0 0, .slice none 0 c]).run Tryd.prog w = .ok (.slice none 0 0) w := by
        simp [Builtin.append_, run_underlying ht, sizeOf, typeInfo, hi, Builtin.lenOf, Builtin.firstCells]
      simp only [List.length_nil] at hx
      have hev : a.eval (.const (.slice none 0 0)) = .slice none 0 0 := rfl
      simp [execOp, ho, resolve, invoke, builtin, hx, hev, hrun, Result.andThen]
      exact hK _ _ (h none 0 w (Sl.nil _ _ _ (by omega)) (Below.refl _ _))
    | some ad => exact go ad rfl (by simp)
  · obtain ⟨b, off, rfl, _, hc⟩ := hr hn
    refine go _ rfl (fun j u hu => ?_)
    rw [Addr.add_lit]
    simp only [List.getElem?_map, Option.map_eq_some_iff] at hu
    obtain ⟨y, hy, rfl⟩ := hu
    exact hc j y hy

/-- 'append(s, y)', s the call's own -/
theorem wl_append_one {w : World} {ops : Array Oper} {rest : List Oper} {o : Oper} {a : Act} {Q : Exit → Act → World → Prop} (hgd : o.guard = none) (s x : Operand) (t : TypeId) (ht : Tryd.prog.underlying t = some (.slice 59))
    (ho : o.op = .call { callee := .builtin .append, args := #[s, x], argTypes := #[t, t] })
    (base : Nat) (v : Value) (k : Nat) (ys : List Nat) (hs : a.eval s = v) (hown : w.ownsRow base 59 1 v k (ys.map U)) (ad : Addr) (c : Nat) (y : Nat) (hx : a.eval x = .slice (some ad) 1 c) (hc : w.cell? ad = some (.int .u64 (y : Int)))
    (hk : k + 1 ≤ 17592186044416) (hbase : base ≤ w.heap.size)
    (h : ∀ v' w', w'.ownsRow base 59 1 v' (k + 1) ((ys ++ [y]).map U) → (∀ B a, Below B a w → B ≤ base → Below B a w') → wpList Tryd.prog ops Q rest (a.put o.dst v') w') : wpList Tryd.prog ops Q (o :: rest) a w := by
  obtain ⟨i0, hi, hz0, hz1, hz2⟩ := info_parts Tryd.infoU
  have h63 : k + 1 ≤ maxLen := by simp only [maxLen]; omega
  have h64 : (k + 1) * 8 ≤ 140737488355328 := by omega
  refine wpList_append_own (w := w) hgd _ _ t ho base 59 i0 (.int .u64 0) 1 8 ht hi hz0 hz1 hz2 rfl (by decide) v k _ hs hown ad 1 c [U y] hx (by simp) ?_ (by simp [Value.oneCell']) h63 h64 hbase ?_
  · intro j u hj
    match j, hj with
    | 0, hj => simp at hj; subst hj; simpa [Addr.add] using hc
  · intro v' w' hown' hg _
    refine h v' w' (by simpa using hown') fun B a hb hB => hb.grown hg (Nat.le_trans hB hbase) fun j e => ?_
    have := (hown.lt j e).1
    omega

/-- 'make(T, n)' -/
theorem wl_make {w : World} {ops : Array Oper} {rest : List Oper} {o : Oper} {a : Act} {Q : Exit → Act → World → Prop} (hg : o.guard = none) (l : Operand) (t : TypeId) (ht : Tryd.prog.underlying t = some (.slice 59))
    (hop : o.op = Op.makeSlice t l l) (N : Int) (n : Nat) (hl : a.eval l = .int .i64 N) (hN : N = n) (hn : n ≤ 35184372088832)
    (h : ∀ w', Row w' w.heap.size (List.replicate n 0) → Below w.heap.size w w' → w'.heap.size = w.heap.size + 1 → wpList Tryd.prog ops Q rest (a.put o.dst (.slice (some ⟨w.heap.size, 0, none⟩) n n)) w') :
    wpList Tryd.prog ops Q (o :: rest) a w := by
  obtain ⟨i0, hi, hz0, hz1, hz2⟩ := info_parts Tryd.infoU
  subst hN
  refine wpList_plain hg fun K hK => ?_
  have hb : (i0.bytes : Int) * (n : Int) ≤ 281474976710656 := by rw [hz2]; omega
  have hr := run_make (P := Tryd.prog) w t 59 i0 (.int .u64 0) ht hi hz0 .i64 .i64 n n (by omega) (by omega) hb (by omega)
  simp only [Int.toNat_natCast] at hr
  unfold Oper.wp
  simp [execOp, hop, hl, hr, Result.andThen]
  refine hK _ _ (h _ ?_ ((Below.refl _ _).alloc (Nat.le_refl _) _) (by simp))
  unfold Row
  rw [heap_alloc_new, hz1, Nat.mul_one]
  have e : madeCells (Value.int IntKind.u64 0).cells n = (List.map U (List.replicate n 0)).toArray := by
    apply Array.ext'
    rw [show (Value.int IntKind.u64 0).cells = #[Value.int IntKind.u64 0] from rfl, toList_madeCells_one]
    simp [U]
  rw [e]

theorem splice_map (zs ys : List Nat) (off : Nat) : splice (zs.map U) off (ys.map U) = (splice zs off ys).map U := by simp [splice]

/-- 'copy(d, s)', the result not used: d the numbers from off on of block g -/
theorem wl_copy {w : World} {ops : Array Oper} {rest : List Oper} {o : Oper} {a : Act} {Q : Exit → Act → World → Prop} (hgd : o.guard = none) (d s : Operand) (dT sT : TypeId) (hu : Tryd.prog.underlying dT = some (.slice 59))
    (ho : o.op = .call { callee := .builtin .copy, args := #[d, s], argTypes := #[dT, sT] })
    (g off dLen dCap : Nat) (sp : Option Addr) (sLen sCap : Nat) (hd : a.eval d = .slice (some ⟨g, off, none⟩) dLen dCap) (hs : a.eval s = .slice sp sLen sCap)
    (zs ys : List Nat) (hg : Row w g zs) (B : Nat) (hsl : Sl w B sp sLen sCap ys) (hfit : off + dLen ≤ zs.length) (hle : sLen ≤ dLen)
    (h : ∀ w', Row w' g (splice zs off ys) → Only w w' g → w'.heap.size = w.heap.size → ∀ v, wpList Tryd.prog ops Q rest (a.put o.dst v) w') :
    wpList Tryd.prog ops Q (o :: rest) a w := by
  have hsz : (Tryd.prog.info? 59).map (·.size) = some 1 := by
    obtain ⟨i0, hi, hz0, hz1, hz2⟩ := info_parts Tryd.infoU
    rw [hi]; simp [hz1]
  have hr := hsl.rd
  have hl := hsl.len
  subst hl
  have hmin : Nat.min ys.length dLen = ys.length := Nat.min_eq_left hle
  by_cases hn : ys = []
  · subst hn
    refine wpList_copy_nothing hgd d s dT sT ho 59 hu hsz _ sp dLen dCap _ sCap hd hs (by simp) ?_
    exact h w (by simpa [splice] using hg) (Only.refl _ _) rfl _
  · obtain ⟨b, o', rfl, _, hc⟩ := hr hn
    refine wpList_copy_own hgd d s dT sT ho 59 hu hsz g off dLen dCap _ _ sCap hd hs _ _ hg (ys.map U) (by simp [hmin]) (fun j u hu => ?_) (by simp; omega) (oneCellU ys) ?_
    · rw [Addr.add_lit]
      simp only [List.getElem?_map, Option.map_eq_some_iff] at hu
      obtain ⟨y, hy, rfl⟩ := hu
      exact hc j y hy
    · refine h (w.setRow g _) ?_ ⟨rfl, rfl, rfl, by simp [World.setRow], fun k _ hk => setRow_other w g k _ (fun e => hk (by rw [e]))⟩ (by simp [World.setRow]) _
      have := setRow_heap w g _ (((zs.map U).toArray).toList.take off ++ (ys.map U ++ ((zs.map U).toArray).toList.drop (off + (ys.map U).length))).toArray _ _ hg
      unfold Row
      rw [this, ← splice_map]
      simp [splice]
end Go.Proofs.YtnpaidieijlkkaaDoor

/- The reference's From. -/
namespace Go.Proofs.YtnpaidieijlkkaaDoor
open Go.RowKit

/-- two digits of 32 bits for one of 64 -/
theorem from_step {zs xs : List Nat} {k x n : Nat} (hz : zs.length = 2 * n) (hd : Dg b32 zs) (hv : V b32 (zs.take (2 * k)) = V b64 (xs.take k)) (hx : xs[k]? = some x) (hlt : x < b64) (hk : k < n) :
    ((zs.set (2 * k) (x % 4294967296)).set (2 * k + 1) (x / 4294967296)).length = 2 * n ∧ Dg b32 ((zs.set (2 * k) (x % 4294967296)).set (2 * k + 1) (x / 4294967296)) ∧
      V b32 (((zs.set (2 * k) (x % 4294967296)).set (2 * k + 1) (x / 4294967296)).take (2 * (k + 1))) = V b64 (xs.take (k + 1)) := by
  refine ⟨by simp [hz], (hd.set _ (Nat.mod_lt _ (by decide))).set _ (Nat.div_lt_of_lt_mul (by rw [b64_eq] at hlt; exact hlt)), ?_⟩
  rw [show 2 * (k + 1) = 2 * k + 1 + 1 by omega, V_set_take _ (by simp [hz]; omega), V_set_take _ (by omega), hv, V_take_succ hx, Nat.add_assoc]
  congr 1
  rw [b64_eq, Nat.mul_pow, ← Nat.pow_add, ← Nat.two_mul, Nat.pow_succ, Nat.mul_assoc, ← Nat.mul_add]
  congr 1
  have := Nat.mod_add_div x 4294967296
  unfold b32; omega

end Go.Proofs.YtnpaidieijlkkaaDoor

/- The reference's To and Is. -/
namespace Go.Proofs.YtnpaidieijlkkaaDoor
open Go.RowKit

theorem to_pair {ds ys : List Nat} {k x y : Nat} (hl : ys.length = k) (hv : V b64 ys = V b32 (ds.take (2 * k))) (hx : ds[2 * k]? = some x) (hy : ds[2 * k + 1]? = some y) :
    V b64 (ys ++ [x + y * b32]) = V b32 (ds.take (2 * (k + 1))) := by
  rw [show 2 * (k + 1) = 2 * k + 1 + 1 by omega, V_take_succ hy, V_take_succ hx, V_append, hv, hl, Nat.add_assoc]
  rw [V_cons, V_nil, Nat.mul_zero, Nat.add_zero, b64_eq, Nat.mul_pow, ← Nat.pow_add, ← Nat.two_mul, Nat.pow_succ, Nat.mul_assoc, ← Nat.mul_add, Nat.mul_comm y]
theorem to_one {ds ys : List Nat} {k x : Nat} (hl : ys.length = k) (hv : V b64 ys = V b32 (ds.take (2 * k))) (hx : ds[2 * k]? = some x) (hn : 2 * k + 1 = ds.length) :
    V b64 (ys ++ [x]) = V b32 (ds.take (2 * (k + 1))) := by
  rw [List.take_of_length_le (i := 2 * (k + 1)) (by omega), ← List.take_length (l := ds), ← hn, V_take_succ hx, V_append, hv, hl]
  simp only [V, Nat.mul_zero, Nat.add_zero]
  rw [b64_eq, Nat.mul_pow, ← Nat.pow_add, ← Nat.two_mul]
theorem to_end {ds ys : List Nat} {k N : Nat} (hl : ys.length = k) (hd : Dg b64 ys) (hv : V b64 ys = V b32 (ds.take (2 * k))) (h1 : ds.length ≤ 2 * k) (h2 : 2 * k ≤ ds.length + 1) (hN : Nm b32 ds N) : Nm b64 ys N := by
  rw [List.take_of_length_le h1, hN.2.2] at hv
  by_cases hz : ys = []
  · subst hz
    exact ⟨hd, fun x hx => by simp at hx, hv⟩
  refine ⟨hd, Nz_of_ge hd ?_, hv⟩
  by_cases h0 : ds = []
  · subst h0
    have : ys.length = 0 := by simp at h2; omega
    obtain rfl : ys = [] := List.eq_nil_of_length_eq_zero this
    simp at hz
  · have := V_ge (B := b32) hN.2.1 h0
    rw [hN.2.2] at this
    rw [hv, hl, b64_eq, Nat.mul_pow, ← Nat.pow_add, ← Nat.two_mul]
    have hp : 0 < ds.length := List.length_pos_iff.2 h0
    exact Nat.le_trans (Nat.pow_le_pow_right b32_pos (by omega)) this

end Go.Proofs.YtnpaidieijlkkaaDoor

/- Steps of schoolbook sums, differences, products and orders, on lists of digits. -/
namespace Go.Proofs.YtnpaidieijlkkaaDoor

theorem V_take_get {B : Nat} (xs : List Nat) (k : Nat) : V B (xs.take (k + 1)) = V B (xs.take k) + B ^ k * (xs[k]?.getD 0) := by
  rcases Nat.lt_or_ge k xs.length with h | h
  · obtain ⟨x, hx⟩ := get_lt h
    rw [V_take_succ hx, hx]; rfl
  · rw [List.take_of_length_le (by omega), List.take_of_length_le (by omega), List.getElem?_eq_none h]; simp

/-- one digit of a sum -/
theorem add_step {B : Nat} {zs xs ys : List Nat} {k c x y : Nat} (hz : k < zs.length) (hv : V B (zs.take k) + B ^ k * c = V B (xs.take k) + V B (ys.take k)) (hx : xs[k]?.getD 0 = x) (hy : ys[k]?.getD 0 = y) :
    V B ((zs.set k ((c + x + y) % B)).take (k + 1)) + B ^ (k + 1) * ((c + x + y) / B) = V B (xs.take (k + 1)) + V B (ys.take (k + 1)) := by
  rw [V_set_take _ hz, V_take_get xs, V_take_get ys, hx, hy, Nat.pow_succ, Nat.mul_assoc, Nat.add_assoc, ← Nat.mul_add, Nat.mod_add_div, Nat.mul_add, Nat.mul_add]
  omega

/-- one digit of a difference -/
theorem sub_step {B : Nat} {zs xs ys : List Nat} {k c d z x y : Nat} (hz : k < zs.length) (hv : V B (zs.take k) + V B (ys.take k) = V B (xs.take k) + B ^ k * c) (hx : xs[k]?.getD 0 = x) (hy : ys[k]?.getD 0 = y)
    (he : z + (y + c) = x + B * d) :
    V B ((zs.set k z).take (k + 1)) + V B (ys.take (k + 1)) = V B (xs.take (k + 1)) + B ^ (k + 1) * d := by
  rw [V_set_take _ hz, V_take_get xs, V_take_get ys, hx, hy, Nat.pow_succ, Nat.mul_assoc]
  have h1 : B ^ k * z + (B ^ k * y + B ^ k * c) = B ^ k * x + B ^ k * (B * d) := by rw [← Nat.mul_add, ← Nat.mul_add, he, Nat.mul_add]
  omega

/-- the value with one digit set -/
theorem V_set {B : Nat} {zs : List Nat} {i old : Nat} (x : Nat) (h : zs[i]? = some old) : V B (zs.set i x) + B ^ i * old = V B zs + B ^ i * x := by
  induction zs generalizing i with
  | nil => simp at h
  | cons y r ih =>
    cases i with
    | zero => simp at h; subst h; simp [V]; omega
    | succ i =>
      have h1 := ih (i := i) (by simpa using h)
      simp only [List.set_cons_succ, V, Nat.pow_succ]
      have h2 : B * V B (r.set i x) + B ^ i * B * old = B * V B r + B ^ i * B * x := by
        have := congrArg (B * ·) h1
        simp only [Nat.mul_add] at this
        rw [show B ^ i * B * old = B * (B ^ i * old) by rw [Nat.mul_comm (B ^ i), Nat.mul_assoc], show B ^ i * B * x = B * (B ^ i * x) by rw [Nat.mul_comm (B ^ i), Nat.mul_assoc]]
        exact this
      omega

/-- one digit of a row of a product -/
theorem mul_step {B : Nat} {zs ys : List Nat} {i j c d x y E : Nat} (hd : zs[i + j]? = some d) (hy : ys[j]? = some y) (hv : V B zs + B ^ (i + j) * c = E + B ^ i * (x * V B (ys.take j))) :
    V B (zs.set (i + j) ((c + (d + x * y)) % B)) + B ^ (i + (j + 1)) * ((c + (d + x * y)) / B) = E + B ^ i * (x * V B (ys.take (j + 1))) := by
  have h1 := V_set (B := B) ((c + (d + x * y)) % B) hd
  have h2 : B ^ (i + (j + 1)) * ((c + (d + x * y)) / B) + B ^ (i + j) * ((c + (d + x * y)) % B) = B ^ (i + j) * (c + (d + x * y)) := by
    rw [show i + (j + 1) = (i + j) + 1 by omega, Nat.pow_succ, Nat.mul_assoc, ← Nat.mul_add]
    congr 1
    have := Nat.mod_add_div (c + (d + x * y)) B
    omega
  rw [V_take_succ hy, Nat.mul_add, Nat.mul_add]
  have h3 : B ^ i * (x * (B ^ j * y)) = B ^ (i + j) * (x * y) := by
    rw [Nat.pow_add, Nat.mul_assoc, ← Nat.mul_assoc x, Nat.mul_comm x, Nat.mul_assoc]
  rw [Nat.mul_add, Nat.mul_add] at h2
  rw [h3]
  omega

theorem mul_le32 {x y : Nat} (hx : x < 4294967296) (hy : y < 4294967296) : x * y ≤ 18446744065119617025 := by
  have := Nat.mul_le_mul (Nat.le_of_lt_succ hx) (Nat.le_of_lt_succ hy)
  simpa using this

/-- the order of numbers of equal length, at the highest digit that differs -/
theorem cmp_lt {B : Nat} {xs ys : List Nat} {m x y : Nat} (hd : Dg B xs) (hl : xs.length = ys.length) (hx : xs[m]? = some x) (hy : ys[m]? = some y) (he : xs.drop (m + 1) = ys.drop (m + 1)) (h : x < y) : V B xs < V B ys := by
  have hm : m < xs.length := (List.getElem?_eq_some_iff.1 hx).1
  have e1 := V_split (B := B) xs (m + 1)
  have e2 := V_split (B := B) ys (m + 1)
  rw [V_take_succ hx, Nat.min_eq_left (by omega)] at e1
  rw [V_take_succ hy, Nat.min_eq_left (by omega), ← he] at e2
  have h1 := V_lt (xs.take m) (hd.take m)
  rw [List.length_take, Nat.min_eq_left (by omega)] at h1
  have h2 : B ^ m * (x + 1) ≤ B ^ m * y := Nat.mul_le_mul_left _ h
  rw [Nat.mul_add, Nat.mul_one] at h2
  omega
theorem drop_eq_of {xs ys : List Nat} {m x : Nat} (hx : xs[m]? = some x) (hy : ys[m]? = some x) (he : xs.drop (m + 1) = ys.drop (m + 1)) : xs.drop m = ys.drop m := by
  rw [List.drop_eq_getElem_cons (List.getElem?_eq_some_iff.1 hx).1, List.drop_eq_getElem_cons (List.getElem?_eq_some_iff.1 hy).1, he, (List.getElem?_eq_some_iff.1 hx).2, (List.getElem?_eq_some_iff.1 hy).2]
/-- -1, 0, 1 -/
def ncmp (a b : Nat) : Int := if a < b then -1 else if b < a then 1 else 0
theorem ncmp_lt {a b : Nat} (h : a < b) : ncmp a b = -1 := by simp [ncmp, h]
theorem ncmp_gt {a b : Nat} (h : b < a) : ncmp a b = 1 := by unfold ncmp; rw [if_neg (by omega), if_pos h]
theorem ncmp_eq (a : Nat) : ncmp a a = 0 := by simp [ncmp]
theorem add_end {B : Nat} (hB : 2 ≤ B) {xs ys zs : List Nat} {c n : Nat} (hd : Dg B xs) (hd2 : Dg B ys) (h1 : xs.length ≤ n) (h2 : ys.length ≤ n) (hz : zs.length = n + 1) (hv : V B (zs.take (n + 1)) + B ^ (n + 1) * c = V B (xs.take (n + 1)) + V B (ys.take (n + 1))) :
    V B zs = V B xs + V B ys := by
  rw [List.take_of_length_le (by omega), List.take_of_length_le (by omega), List.take_of_length_le (by omega)] at hv
  have a1 := V_lt xs hd
  have a2 := V_lt ys hd2
  have a3 : B ^ xs.length ≤ B ^ n := Nat.pow_le_pow_right (show 0 < B by omega) h1
  have a4 : B ^ ys.length ≤ B ^ n := Nat.pow_le_pow_right (show 0 < B by omega) h2
  have a5 : B ^ (n + 1) = B ^ n * B := Nat.pow_succ ..
  have a6 : B ^ n * 2 ≤ B ^ n * B := Nat.mul_le_mul_left _ hB
  have hc : c = 0 := by
    rcases Nat.eq_zero_or_pos c with h | h
    · exact h
    · have := Nat.mul_le_mul_left (B ^ (n + 1)) h
      omega
  subst hc
  omega

theorem sub_end {B : Nat} {xs ys zs : List Nat} {c n : Nat} (hd : Dg B zs) (h1 : xs.length = n) (h2 : ys.length ≤ n) (hz : zs.length = n) (hle : V B ys ≤ V B xs) (hv : V B (zs.take n) + V B (ys.take n) = V B (xs.take n) + B ^ n * c) :
    V B zs = V B xs - V B ys := by
  rw [List.take_of_length_le (by omega), List.take_of_length_le (by omega), List.take_of_length_le (by omega)] at hv
  have a1 := V_lt zs hd
  rw [hz] at a1
  have hc : c = 0 := by
    rcases Nat.eq_zero_or_pos c with h | h
    · exact h
    · have := Nat.mul_le_mul_left (B ^ n) h
      omega
  subst hc
  omega
/-- the row's end: the carry becomes the next digit -/
theorem mul_row {B : Nat} {zs xs ys : List Nat} {k m c x E : Nat} (hz : zs[k + m]? = some 0) (hm : m = ys.length) (hx : xs[k]? = some x) (hE : E = V B (xs.take k) * V B ys) (hv : V B zs + B ^ (k + m) * c = E + B ^ k * (x * V B (ys.take m))) :
    V B (zs.set (k + m) c) = V B (xs.take (k + 1)) * V B ys := by
  have h1 := V_set (B := B) c hz
  rw [List.take_of_length_le (by omega)] at hv
  rw [V_take_succ hx, Nat.add_mul, ← hE, Nat.mul_assoc]
  omega
/-- one limb of a sum in place -/
theorem addTo_step {B : Nat} {zs ys : List Nat} {o k c s c' old y E : Nat} (hz : zs[o + k]? = some old) (hy : ys[k]? = some y) (hv : V B zs + B ^ (o + k) * c = E + B ^ o * V B (ys.take k)) (he : s + B * c' = old + y + c) :
    V B (zs.set (o + k) s) + B ^ (o + (k + 1)) * c' = E + B ^ o * V B (ys.take (k + 1)) := by
  have h1 := V_set (B := B) s hz
  have h2 : B ^ (o + k) * s + B ^ (o + k) * (B * c') = B ^ (o + k) * old + B ^ (o + k) * y + B ^ (o + k) * c := by rw [← Nat.mul_add, he, Nat.mul_add, Nat.mul_add]
  rw [V_take_succ hy, Nat.mul_add, ← Nat.mul_assoc, ← Nat.pow_add, show o + (k + 1) = (o + k) + 1 by omega, Nat.pow_succ, Nat.mul_assoc]
  omega
/-- one limb of a product by a limb, added in place -/
theorem addMul_step {B : Nat} {zs ys : List Nat} {o k c s c' old y d E : Nat} (hz : zs[o + k]? = some old) (hy : ys[k]? = some y) (hv : V B zs + B ^ (o + k) * c = E + B ^ o * (V B (ys.take k) * d)) (he : s + B * c' = old + y * d + c) :
    V B (zs.set (o + k) s) + B ^ (o + (k + 1)) * c' = E + B ^ o * (V B (ys.take (k + 1)) * d) := by
  have h1 := V_set (B := B) s hz
  have h2 : B ^ (o + k) * s + B ^ (o + k) * (B * c') = B ^ (o + k) * old + B ^ (o + k) * (y * d) + B ^ (o + k) * c := by rw [← Nat.mul_add, he, Nat.mul_add, Nat.mul_add]
  rw [V_take_succ hy, Nat.add_mul, Nat.mul_add, Nat.mul_assoc (B ^ k), ← Nat.mul_assoc (B ^ o) (B ^ k), ← Nat.pow_add, show o + (k + 1) = (o + k) + 1 by omega, Nat.pow_succ, Nat.mul_assoc]
  omega
theorem mul_lt_sq {B x y : Nat} (hx : x < B) (hy : y < B) : x * y + 2 * B ≤ B * B + 1 := by
  obtain ⟨b, rfl⟩ : ∃ b, B = b + 1 := ⟨B - 1, by omega⟩
  have := Nat.mul_le_mul (Nat.le_of_lt_succ hx) (Nat.le_of_lt_succ hy)
  rw [Nat.add_mul, Nat.mul_add b, Nat.one_mul]; omega
theorem lt_of_mul_lt_sq {B x : Nat} (h : B * x < B * B) : x < B := Nat.lt_of_mul_lt_mul_left h
theorem amul_bound1 {B hi lo y d sum c1 old : Nat} (h : B * hi + lo = y * d) (hy : y < B) (hd : d < B) (h1 : sum + B * c1 = lo + old) (ho : old < B) : hi + c1 < B := by
  apply lt_of_mul_lt_sq (B := B)
  have := mul_lt_sq hy hd
  rw [Nat.mul_add]; omega
theorem amul_bound2 {B hi lo y d sum c1 old s c2 c : Nat} (h : B * hi + lo = y * d) (hy : y < B) (hd : d < B) (h1 : sum + B * c1 = lo + old) (ho : old < B) (h2 : s + B * c2 = sum + c) (hc : c < B) : hi + c1 + c2 < B := by
  apply lt_of_mul_lt_sq (B := B)
  have := mul_lt_sq hy hd
  rw [Nat.mul_add, Nat.mul_add]; omega
theorem amul_eq {B hi lo y d sum c1 old s c2 c : Nat} (h : B * hi + lo = y * d) (h1 : sum + B * c1 = lo + old) (h2 : s + B * c2 = sum + c) : s + B * (hi + c1 + c2) = old + y * d + c := by
  rw [Nat.mul_add, Nat.mul_add]; omega
/-- a row of a product, its carry laid behind it -/
theorem lmul_row {B : Nat} {zs zs' xs ys : List Nat} {k m c x : Nat} (hz : zs'[k + m]? = some 0) (hx : xs[k]? = some x) (hE : V B zs = V B (xs.take k) * V B ys) (hv : V B zs' + B ^ (k + m) * c = V B zs + B ^ k * (V B ys * x)) :
    V B (zs'.set (k + m) c) = V B (xs.take (k + 1)) * V B ys := by
  have h1 := V_set (B := B) c hz
  rw [V_take_succ hx, Nat.add_mul, ← hE, Nat.mul_assoc, Nat.mul_comm x]
  omega
end Go.Proofs.YtnpaidieijlkkaaDoor

/- The reference's Is and Cmp. -/
namespace Go.Proofs.YtnpaidieijlkkaaDoor
open Go.RowKit

/-- the function returns v, all else being as it was -/
def RetV (w : World) (v : Value) (e : Ending) (w' : World) : Prop := e = .returned v ∧ Below w.heap.size w w'

end Go.Proofs.YtnpaidieijlkkaaDoor

/- The reference's Add and Sub. -/
namespace Go.Proofs.YtnpaidieijlkkaaDoor
open Go.RowKit

theorem dg_zeros {B : Nat} (hB : 0 < B) (n : Nat) : Dg B (List.replicate n 0) := fun x hx => by rw [List.eq_of_mem_replicate hx]; exact hB

/-- what is trimmed is the normal form, read where it was -/
theorem retN_trim {B : Nat} {w w' : World} {b m : Nat} {A : Option Addr} {zs : List Nat} {N : Nat} (h : Sl w' w'.heap.size A m b (trimmed zs)) (hd : Dg B zs) (hv : V B zs = N) (hb : Below w.heap.size w w') :
    RetN B w N (.returned (.slice A m b)) w' := ⟨_, hv ▸ trimmed_nm hd, _, _, _, rfl, h, hb⟩

end Go.Proofs.YtnpaidieijlkkaaDoor

/- The reference's Sub. -/
namespace Go.Proofs.YtnpaidieijlkkaaDoor
open Go.RowKit

theorem Row.set_ {w : World} {g : Nat} {zs : List Nat} (h : Row w g zs) {i x : Nat} {z : Int} (e : z = (x : Int)) : Row (w.setCell ⟨g, i, none⟩ (.int .u64 z)) g (zs.set i x) := by subst e; exact h.set i x

end Go.Proofs.YtnpaidieijlkkaaDoor

/- The reference's Mul. -/
namespace Go.Proofs.YtnpaidieijlkkaaDoor
open Go.RowKit

end Go.Proofs.YtnpaidieijlkkaaDoor

/- math/bits.Add64 and Sub64, in the walk. -/
namespace Go.Proofs.YtnpaidieijlkkaaDoor
open Go.RowKit

theorem callAdd64 (x y c : Nat) (hc : c ≤ 1) (w : World) :
    (callFunc 140 #[.int .u64 x, .int .u64 y, .int .u64 c]).run Tryd.prog w =
      .ok (.value (.tuple #[.int .u64 (((x + y + c) % 18446744073709551616 : Nat) : Int), .int .u64 (((x + y + c) / 18446744073709551616 : Nat) : Int)])) w := by
  rw [run_callFunc_extern Tryd.func140 (by kernel_rfl) (by kernel_rfl) (by kernel_rfl) (e := add64Entry) (by kernel_rfl), run_add64 x y c (by omega) (by omega) (by omega) (by omega)]
  simp only [Result.andThen]
  congr 5 <;> omega

def sub64E : Array Value → Sem Value := fun args => do
  let (x, y, b) ← Extern.MathBitsCarry.three "Sub64" args
  pure (Extern.MathBitsCarry.pair ((x + Extern.MathBitsCarry.m64 - y - b) % Extern.MathBitsCarry.m64) (if x < y + b then 1 else 0))

theorem run_sub64E (x y b : Nat) (hb : b ≤ 1) (w : World) :
    (sub64E #[.int .u64 x, .int .u64 y, .int .u64 b]).run Tryd.prog w =
      .ok (.tuple #[.int .u64 (((x + 18446744073709551616 - y - b) % 18446744073709551616 : Nat) : Int), .int .u64 ((if x < y + b then 1 else 0 : Nat) : Int)]) w := by
  have : b = 0 ∨ b = 1 := by omega
  rcases this with rfl | rfl <;> rfl

theorem callSub64 (x y b : Nat) (hb : b ≤ 1) (w : World) :
    (callFunc 156 #[.int .u64 x, .int .u64 y, .int .u64 b]).run Tryd.prog w =
      .ok (.value (.tuple #[.int .u64 (((x + 18446744073709551616 - y - b) % 18446744073709551616 : Nat) : Int), .int .u64 ((if x < y + b then 1 else 0 : Nat) : Int)])) w := by
  rw [run_callFunc_extern Tryd.func156 (by kernel_rfl) (by kernel_rfl) (by kernel_rfl) (e := sub64E) (by kernel_rfl), run_sub64E x y b hb]
  rfl

theorem wl_add64 {w : World} {ops : Array Oper} {rest : List Oper} {o : Oper} {a : Act} {Q : Exit → Act → World → Prop} (hgd : o.guard = none) (p q r : Operand)
    (ho : o.op = .call { callee := .value (.func 140), args := #[p, q, r], argTypes := #[59, 59, 59] })
    (x y c : Nat) (hp : a.eval p = .int .u64 x) (hq : a.eval q = .int .u64 y) (hr : a.eval r = .int .u64 c) (hx : x < b64) (hy : y < b64) (hc : c ≤ 1)
    (h : ∀ s c' : Nat, s + b64 * c' = x + y + c → s < b64 → c' ≤ 1 → wpList Tryd.prog ops Q rest (a.put o.dst (.tuple #[.int .u64 (s : Int), .int .u64 (c' : Int)])) w) : wpList Tryd.prog ops Q (o :: rest) a w := by
  obtain ⟨s, c', hrun, h1, h2, h3⟩ : ∃ s c' : Nat, (callFunc 140 #[.int .u64 x, .int .u64 y, .int .u64 c]).run Tryd.prog w = .ok (.value (.tuple #[.int .u64 (s : Int), .int .u64 (c' : Int)])) w ∧ s + b64 * c' = x + y + c ∧ s < b64 ∧ c' ≤ 1 :=
    ⟨_, _, callAdd64 x y c hc w, by unfold b64; omega, by rw [lt64]; omega, by rw [lt64] at hx hy; omega⟩
  have h' := h s c' h1 h2 h3
  refine wpList_plain hgd fun K hK => ?_
  have hev : a.eval (.func 140) = .func (.func 140) #[] #[] := rfl
  unfold Oper.wp
  simp [execOp, ho, resolve, invoke, hev, hp, hq, hr, hrun, Deferred.ofValue]
  exact hK _ _ h'

theorem wl_sub64 {w : World} {ops : Array Oper} {rest : List Oper} {o : Oper} {a : Act} {Q : Exit → Act → World → Prop} (hgd : o.guard = none) (p q r : Operand)
    (ho : o.op = .call { callee := .value (.func 156), args := #[p, q, r], argTypes := #[59, 59, 59] })
    (x y c : Nat) (hp : a.eval p = .int .u64 x) (hq : a.eval q = .int .u64 y) (hr : a.eval r = .int .u64 c) (hx : x < b64) (hy : y < b64) (hc : c ≤ 1)
    (h : ∀ s c' : Nat, s + (y + c) = x + b64 * c' → s < b64 → c' ≤ 1 → wpList Tryd.prog ops Q rest (a.put o.dst (.tuple #[.int .u64 (s : Int), .int .u64 (c' : Int)])) w) : wpList Tryd.prog ops Q (o :: rest) a w := by
  obtain ⟨s, c', hrun, h1, h2, h3⟩ : ∃ s c' : Nat, (callFunc 156 #[.int .u64 x, .int .u64 y, .int .u64 c]).run Tryd.prog w = .ok (.value (.tuple #[.int .u64 (s : Int), .int .u64 (c' : Int)])) w ∧ s + (y + c) = x + b64 * c' ∧ s < b64 ∧ c' ≤ 1 := by
    refine ⟨_, _, callSub64 x y c hc w, ?_, by rw [lt64]; omega, by split <;> omega⟩
    rw [lt64] at hx hy
    unfold b64
    split <;> omega
  have h' := h s c' h1 h2 h3
  refine wpList_plain hgd fun K hK => ?_
  have hev : a.eval (.func 156) = .func (.func 156) #[] #[] := rfl
  unfold Oper.wp
  simp [execOp, ho, resolve, invoke, hev, hp, hq, hr, hrun, Deferred.ofValue]
  exact hK _ _ h'
end Go.Proofs.YtnpaidieijlkkaaDoor
