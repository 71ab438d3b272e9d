/- aescore: the iterator that Keys hands out. -/
import Derived.Test.YtabhdkjepbkooaaAt
import Derived.Test.YtabhdkjepbkooaaKr
import Derived.Test.YtabhdkjepbkooaaMidIn
import Derived.Test.YtabhdkjepbkooaaBox
set_option linter.unusedVariables false
set_option linter.unusedSimpArgs false
namespace Go.Proofs.Ytabhdkjepbkooaa
open Go.RowKit
attribute [local go_sem] Oper.semAt_some

/-- what Keys hands out -/
structure KyX where
  i : Nat
  A : Option Addr
  n : Nat
  c : Nat
abbrev encK : KyX → Array Value := fun x => #[.int .i64 (x.i : Int), .slice x.A x.n x.c]
def keyAt (bs : List (BitVec 8)) (i : Nat) : List (BitVec 8) := (bs.drop (16 * i)).take 16
def KyR (bs : List (BitVec 8)) (top : Nat) (pre : List KyX) (x : KyX) (W : World) : Prop :=
  x.i = pre.length ∧ SlV W W.heap.size x.A x.n x.c ((keyAt bs pre.length).map W8) ∧ x.n = 16 ∧ (∀ b off s, x.A = some ⟨b, off, s⟩ → top ≤ b)
theorem KyR.own (bs : List (BitVec 8)) (top B : Nat) (pre : List KyX) : OwnFrom B (KyR bs top pre) := fun s W W' row hs hg hr => by
  obtain ⟨h1, h2, h3⟩ := hs
  exact ⟨h1, (h2.kept hg (fun r e => (hr r e).2)).more hg.size, h3⟩
theorem grownNo {w w' : World} (h : Below w.heap.size w w') : w.grownBy w' none := ⟨h.os, h.tape, h.output, h.size, fun i hi _ => h.block i hi⟩
/-- blocks up to hi but for one stay, and none is lost -/
def KpE (ex hi : Nat) (A B : World) : Prop := A.heap.size ≤ B.heap.size ∧ ∀ q, q ≠ ex → q < hi → B.heap[q]? = A.heap[q]?
theorem KpE.refl (ex hi : Nat) (A : World) : KpE ex hi A A := ⟨Nat.le_refl _, fun _ _ _ => rfl⟩
theorem KpE.trans {ex hi : Nat} {A B C : World} (h : KpE ex hi A B) (h' : KpE ex hi B C) : KpE ex hi A C := ⟨Nat.le_trans h.1 h'.1, fun q a b => (h'.2 q a b).trans (h.2 q a b)⟩
theorem KpE.below {ex hi B : Nat} {A C : World} (h : Below B A C) (hB : hi ≤ B) : KpE ex hi A C := ⟨h.size, fun q _ hb => h.block q (Nat.lt_of_lt_of_le hb hB)⟩
theorem KpE.put {ex hi l : Nat} {W : World} {o o' : Obj} (hl : hi ≤ l) (_ : W.heap[l]? = some o) : KpE ex hi W (W.putObj l o') :=
  ⟨by simp [World.putObj], fun q _ hq => World.putObj_heap_other (by omega)⟩
theorem RowV.keptE {t : TypeId} {A B : World} {g ex hi : Nat} {vs : List Value} (h : RowV t A g vs) (hk : KpE ex hi A B) (h1 : g ≠ ex) (h2 : g < hi) : RowV t B g vs := (hk.2 g h1 h2).trans h
theorem new16 (w : World) : ∃ W, w.alloc (.cells #[.int .u8 0, .int .u8 0, .int .u8 0, .int .u8 0, .int .u8 0, .int .u8 0, .int .u8 0, .int .u8 0, .int .u8 0, .int .u8 0, .int .u8 0, .int .u8 0, .int .u8 0, .int .u8 0, .int .u8 0, .int .u8 0] 49) = W ∧ RowV 49 W w.heap.size ((List.replicate 16 (0 : BitVec 8)).map W8) ∧ Below w.heap.size w W ∧ W.heap.size = w.heap.size + 1 :=
  newV w 49 ((List.replicate 16 (0 : BitVec 8)).map W8) _ rfl

set_option maxRecDepth 100000 in
set_option maxHeartbeats 4000000 in
theorem keys1_in (nn : Nat) (hn : 1 ≤ nn) (w : World) (ex g1 gk C : Nat) (bs : List (BitVec 8)) (h1 : RowV 39 w g1 [.slice (some ⟨gk, 0, none⟩) C C]) (h2 : RowV 49 w gk (bs.map W8)) (hbl : bs.length = 16 * C) (hx1 : g1 ≠ ex) (hx2 : gk ≠ ex) (hC : C ≤ 15) :
    SeqP Fence.wide nn Try.prog 31 #[.pointer (some ⟨g1, 0, none⟩)] encK (KyR bs w.heap.size) (KpE ex w.heap.size) (fun ys => ys.length = C) (fun _ => True) C w := by
  intro l J Jx W hW hJ hJx hY h0
  obtain ⟨top, htop⟩ : ∃ t, w.heap.size = t := ⟨_, rfl⟩
  have hl1 := h1.lt
  have hl2 := h2.lt
  rw [htop] at hW hY hl1 hl2
  have c1 : W.cell? ⟨g1, 0, none⟩ = some (.slice (some ⟨gk, 0, none⟩) C C) := (h1.below hW hl1).at_ rfl
  have h2W := h2.below hW hl2
  have HK0 := Lib.hid (show KpE ex top W W from KpE.refl _ _ _)
  have HY := Lib.hid hY
  have HBL := Lib.hid hbl
  have HR2 := Lib.hid h2W
  have HWS := Lib.hid (show top ≤ W.heap.size by have := hW.size; omega)
  have kC : (C : Int) ≤ 15 := by omega
  clear hY h1 h2 hW h2W htop hbl
  refine callsIn_of_wp Try.func31 rfl trivial ?_ rfl
  simp only [Try.ntmps31, List.size_toArray, List.length_cons, List.length_nil, Nat.reduceAdd, Nat.reduceSub, Array.replicate_succ, Array.replicate_zero, List.push_toArray, List.append_toArray, List.nil_append, List.cons_append]
  gi_wp2
  gi_loopw [7] (fun i wr => ∃ (k : Nat) (pre : List KyX), k ≤ C ∧ i = .int .i64 (k : Int) ∧ pre.length = k ∧ Hid (KpE ex top W wr) ∧ J pre wr) (fun i _ => C - (intOf i).toNat)
  case atStart => exact ⟨0, [], by omega, rfl, rfl, HK0, h0⟩
  case round =>
    obtain ⟨k, pre, hk, rfl, hpl, HK, hJs⟩ := hrel
    have HPL := Lib.hid hpl
    clear hpl
    by_cases hkC : k = C
    · subst hkC
      gi_wp2
      go_end0
      exact ⟨⟨_, rfl⟩, .inl ⟨pre, HPL.out, hJs⟩⟩
    · have hki : (k : Int) < C := by omega
      obtain ⟨p, hp⟩ : ∃ p, k * 16 = p := ⟨_, rfl⟩
      obtain ⟨ck, hck⟩ : ∃ l, keyAt bs k = l := ⟨_, rfl⟩
      have hckl : ck.length = 16 := by rw [← hck]; unfold keyAt; have := HBL.out; simp; omega
      have hrk := HR2.out.keptE HK.out hx2 hl2
      have hrng : wr.rangeAt gk p (ck.map W8) := by
        have h := hrk.range p 16
        rw [← List.map_drop, ← List.map_take] at h
        rw [← hck]
        unfold keyAt
        rwa [Nat.mul_comm 16 k, hp]
      have hckm : (ck.map W8).length = 16 := by rw [List.length_map]; exact hckl
      obtain ⟨V1, e1, r1, b1, z1⟩ := new16 wr
      obtain ⟨g4, hg4⟩ : ∃ x, wr.heap.size = x := ⟨_, rfl⟩
      rw [hg4] at r1 b1
      have hWr : top ≤ g4 := by have h1 := HK.out.1; have h2 := HWS.out; omega
      have hth := r1.there 0 (ck.map W8).toArray.size (by simp [hckl])
      have hset := r1.setMany (ck.map W8) 0 V1 _ (by simp [hckl])
      rw [show ((List.replicate 16 (0 : BitVec 8)).map W8).take 0 ++ (ck.map W8 ++ ((List.replicate 16 (0 : BitVec 8)).map W8).drop (0 + (ck.map W8).length)) = ck.map W8 by rw [hckm]; simp] at hset
      have hbs := below_setMany (Nat.le_refl g4) (ck.map W8) 0 wr V1 b1
      have HSET := Lib.hid hset
      have HBS := Lib.hid hbs
      have HG4 := Lib.hid hg4
      have HCK := Lib.hid hck
      have HP := Lib.hid hp
      clear hset hbs hck b1 z1 hrk
      gi_wp2_with (first | ((with_reducible show wpListIn _ _ _ _ _ (⟨some 11, _, _, _, _, _⟩ :: _) _ _); refine wpListIn_load_mid rfl 49 _ rfl gk p rfl (ck.map W8) _ hrng Try.underlying49 rfl (Try.arr16.trans (by rw [hckm])) ?_) | ((with_reducible show wpListIn _ _ _ _ _ (⟨none, _, _, _, _, _⟩ :: _) _ _); refine wpListIn_store_mid rfl 49 _ _ rfl g4 0 (ck.map W8).toArray rfl rfl hth (Try.arr16.trans (by simp [hckl])) (all_oneCell_toArray (ones8 ck)) ?_))
      obtain ⟨V2, hV2⟩ : ∃ V, V1.setCells g4 0 (ck.map W8) = V := ⟨_, rfl⟩
      rw [hV2] at HSET HBS
      rw [hV2]
      have hsl := HSET.out.sl (by rw [hckm]; decide)
      rw [hckm] at hsl
      have hcl := clone_any V2 V2.heap.size ⟨g4, 0, none⟩ 16 16 ck hsl (Nat.le_refl _) (by decide)
      clear hV2 e1 hth hrng hg4
      refine ⟨trivial, (callsIn_wide.2 hcl).mono ?_⟩
      rintro e w1 ⟨v1, rfl, hown1, hb1⟩
      obtain ⟨A1, c1', rfl, hsl1, hlow1, _⟩ := SlV.of_own hown1
      have hsz2 : g4 ≤ V2.heap.size := by have := HBS.out.size; rw [HG4.out] at this; exact this
      have hb01 : Below wr.heap.size wr w1 := by rw [HG4.out]; exact HBS.out.trans (hb1.mono hsz2)
      have hJ1 := hJ pre wr w1 none hJs (grownNo hb01) (fun r e => by cases e)
      have HX := Lib.hid (show KyR bs top pre ⟨k, A1, 16, c1'⟩ w1 from ⟨HPL.out.symm, by rw [HPL.out, HCK.out]; exact hsl1, rfl, fun b off s h => Nat.le_trans (Nat.le_trans hWr hsz2) (hlow1 b off s h)⟩)
      obtain ⟨fn, tmps, assign, body, hy, hRd⟩ := HY.out pre ⟨k, A1, 16, c1'⟩ w1 hJ1 HX.out (by rw [HPL.out]; omega)
      dsimp only [encK] at hy
      have HK1 := Lib.hid (HK.out.trans (KpE.below hb01 (by rw [HG4.out]; exact hWr)))
      clear hb01 hJ1 hsl1 hlow1 hown1 hb1 hsl r1
      gi_wp2
      refine hRd.mono ?_
      rintro e W3 (⟨rfl, hJ3, hKp⟩ | ⟨rfl, hJx3⟩)
      · have HK3 := Lib.hid (HK1.out.trans hKp)
        clear hKp
        gi_wp2
        go_roundw
        case rel => exact ⟨k + 1, pre ++ [⟨k, A1, 16, c1'⟩], by omega, by go_num, by simp [HPL.out], HK3, hJ3⟩
        case measure => simp [intOf]; omega
      · gi_wp2
        refine bodyPost_ret (results_none rfl _ _ _) rfl ?_
        exact ⟨⟨_, rfl⟩, .inr ⟨_, trivial, hJx3⟩⟩
end Go.Proofs.Ytabhdkjepbkooaa
