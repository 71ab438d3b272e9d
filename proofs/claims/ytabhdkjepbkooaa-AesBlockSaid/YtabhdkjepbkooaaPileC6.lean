/- Parts of one proof, joined: Au, Ko, Av, Bb, Bc, Bd, Be. -/
import Derived.Test.YtabhdkjepbkooaaPileC5
import Derived.Test.YtabhdkjepbkooaaPileC1
import Derived.Test.YtabhdkjepbkooaaPileC3
import Derived.StillTailTactics
import Derived.BigQuiet

/- aescore: the iterator that Keys hands out. -/
set_option linter.unusedVariables false
set_option linter.unusedSimpArgs false
namespace Go.Proofs.Ytabhdkjepbkooaa
open Go.RowKit
attribute [local go_sem] Oper.semAt_some

/-- what Keys hands out -/
structure KyX where
  i : Nat
  A : Option Addr
  n : Nat
  c : Nat
abbrev encK : KyX → Array Value := fun x => #[.int .i64 (x.i : Int), .slice x.A x.n x.c]
def keyAt (bs : List (BitVec 8)) (i : Nat) : List (BitVec 8) := (bs.drop (16 * i)).take 16
def KyR (bs : List (BitVec 8)) (top : Nat) (pre : List KyX) (x : KyX) (W : World) : Prop :=
  x.i = pre.length ∧ SlV W W.heap.size x.A x.n x.c ((keyAt bs pre.length).map W8) ∧ x.n = 16 ∧ (∀ b off s, x.A = some ⟨b, off, s⟩ → top ≤ b)
theorem KyR.own (bs : List (BitVec 8)) (top B : Nat) (pre : List KyX) : OwnFrom B (KyR bs top pre) := fun s W W' row hs hg hr => by
  obtain ⟨h1, h2, h3⟩ := hs
  exact ⟨h1, (h2.kept hg (fun r e => (hr r e).2)).more hg.size, h3⟩
theorem grownNo {w w' : World} (h : Below w.heap.size w w') : w.grownBy w' none := ⟨h.os, h.tape, h.output, h.size, fun i hi _ => h.block i hi⟩
/-- blocks up to hi but for one stay, and none is lost -/
def KpE (ex hi : Nat) (A B : World) : Prop := A.heap.size ≤ B.heap.size ∧ ∀ q, q ≠ ex → q < hi → B.heap[q]? = A.heap[q]?
theorem KpE.refl (ex hi : Nat) (A : World) : KpE ex hi A A := ⟨Nat.le_refl _, fun _ _ _ => rfl⟩
theorem KpE.trans {ex hi : Nat} {A B C : World} (h : KpE ex hi A B) (h' : KpE ex hi B C) : KpE ex hi A C := ⟨Nat.le_trans h.1 h'.1, fun q a b => (h'.2 q a b).trans (h.2 q a b)⟩
theorem KpE.below {ex hi B : Nat} {A C : World} (h : Below B A C) (hB : hi ≤ B) : KpE ex hi A C := ⟨h.size, fun q _ hb => h.block q (Nat.lt_of_lt_of_le hb hB)⟩
theorem KpE.put {ex hi l : Nat} {W : World} {o o' : Obj} (hl : hi ≤ l) (_ : W.heap[l]? = some o) : KpE ex hi W (W.putObj l o') :=
  ⟨by simp [World.putObj], fun q _ hq => World.putObj_heap_other (by omega)⟩
theorem RowV.keptE {t : TypeId} {A B : World} {g ex hi : Nat} {vs : List Value} (h : RowV t A g vs) (hk : KpE ex hi A B) (h1 : g ≠ ex) (h2 : g < hi) : RowV t B g vs := (hk.2 g h1 h2).trans h
theorem new16 (w : World) : ∃ W, w.alloc (.cells #[.int .u8 0, .int .u8 0, .int .u8 0, .int .u8 0, .int .u8 0, .int .u8 0, .int .u8 0, .int .u8 0, .int .u8 0, .int .u8 0, .int .u8 0, .int .u8 0, .int .u8 0, .int .u8 0, .int .u8 0, .int .u8 0] 49) = W ∧ RowV 49 W w.heap.size ((List.replicate 16 (0 : BitVec 8)).map W8) ∧ Below w.heap.size w W ∧ W.heap.size = w.heap.size + 1 :=
  newV w 49 ((List.replicate 16 (0 : BitVec 8)).map W8) _ rfl

set_option maxRecDepth 100000 in
set_option maxHeartbeats 4000000 in
theorem keys1_in (nn : Nat) (hn : 1 ≤ nn) (w : World) (ex g1 gk C : Nat) (bs : List (BitVec 8)) (h1 : RowV 39 w g1 [.slice (some ⟨gk, 0, none⟩) C C]) (h2 : RowV 49 w gk (bs.map W8)) (hbl : bs.length = 16 * C) (hx1 : g1 ≠ ex) (hx2 : gk ≠ ex) (hC : C ≤ 15) :
    SeqP Fence.wide nn Try.prog 31 #[.pointer (some ⟨g1, 0, none⟩)] encK (KyR bs w.heap.size) (KpE ex w.heap.size) (fun ys => ys.length = C) (fun _ => True) C w := by
  intro l J Jx W hW hJ hJx hY h0
  obtain ⟨top, htop⟩ : ∃ t, w.heap.size = t := ⟨_, rfl⟩
  have hl1 := h1.lt
  have hl2 := h2.lt
  rw [htop] at hW hY hl1 hl2
  have c1 : W.cell? ⟨g1, 0, none⟩ = some (.slice (some ⟨gk, 0, none⟩) C C) := (h1.below hW hl1).at_ rfl
  have h2W := h2.below hW hl2
  have HK0 := Lib.hid (show KpE ex top W W from KpE.refl _ _ _)
  have HY := Lib.hid hY
  have HBL := Lib.hid hbl
  have HR2 := Lib.hid h2W
  have HWS := Lib.hid (show top ≤ W.heap.size by have := hW.size; omega)
  have kC : (C : Int) ≤ 15 := by omega
  clear hY h1 h2 hW h2W htop hbl
  refine callsIn_of_wp Try.func31 rfl trivial ?_ rfl
  simp only [Try.ntmps31, List.size_toArray, List.length_cons, List.length_nil, Nat.reduceAdd, Nat.reduceSub, Array.replicate_succ, Array.replicate_zero, List.push_toArray, List.append_toArray, List.nil_append, List.cons_append]
  gi_wp2
  gi_loopw [7] (fun i wr => ∃ (k : Nat) (pre : List KyX), k ≤ C ∧ i = .int .i64 (k : Int) ∧ pre.length = k ∧ Hid (KpE ex top W wr) ∧ J pre wr) (fun i _ => C - (intOf i).toNat)
  case atStart => exact ⟨0, [], by omega, rfl, rfl, HK0, h0⟩
  case round =>
    obtain ⟨k, pre, hk, rfl, hpl, HK, hJs⟩ := hrel
    have HPL := Lib.hid hpl
    clear hpl
    by_cases hkC : k = C
    · subst hkC
      gi_wp2
      go_end0
      exact ⟨⟨_, rfl⟩, .inl ⟨pre, HPL.out, hJs⟩⟩
    · have hki : (k : Int) < C := by omega
      obtain ⟨p, hp⟩ : ∃ p, k * 16 = p := ⟨_, rfl⟩
      obtain ⟨ck, hck⟩ : ∃ l, keyAt bs k = l := ⟨_, rfl⟩
      have hckl : ck.length = 16 := by rw [← hck]; unfold keyAt; have := HBL.out; simp; omega
      have hrk := HR2.out.keptE HK.out hx2 hl2
      have hrng : wr.rangeAt gk p (ck.map W8) := by
        have h := hrk.range p 16
        rw [← List.map_drop, ← List.map_take] at h
        rw [← hck]
        unfold keyAt
        rwa [Nat.mul_comm 16 k, hp]
      have hckm : (ck.map W8).length = 16 := by rw [List.length_map]; exact hckl
      obtain ⟨V1, e1, r1, b1, z1⟩ := new16 wr
      obtain ⟨g4, hg4⟩ : ∃ x, wr.heap.size = x := ⟨_, rfl⟩
      rw [hg4] at r1 b1
      have hWr : top ≤ g4 := by have h1 := HK.out.1; have h2 := HWS.out; omega
      have hth := r1.there 0 (ck.map W8).toArray.size (by simp [hckl])
      have hset := r1.setMany (ck.map W8) 0 V1 _ (by simp [hckl])
      rw [show ((List.replicate 16 (0 : BitVec 8)).map W8).take 0 ++ (ck.map W8 ++ ((List.replicate 16 (0 : BitVec 8)).map W8).drop (0 + (ck.map W8).length)) = ck.map W8 by rw [hckm]; simp] at hset
      have hbs := below_setMany (Nat.le_refl g4) (ck.map W8) 0 wr V1 b1
      have HSET := Lib.hid hset
      have HBS := Lib.hid hbs
      have HG4 := Lib.hid hg4
      have HCK := Lib.hid hck
      have HP := Lib.hid hp
      clear hset hbs hck b1 z1 hrk
      gi_wp2_with (first | ((with_reducible show wpListIn _ _ _ _ _ (⟨some 11, _, _, _, _, _⟩ :: _) _ _); refine wpListIn_load_mid rfl 49 _ rfl gk p rfl (ck.map W8) _ hrng Try.underlying49 rfl (Try.arr16.trans (by rw [hckm])) ?_) | ((with_reducible show wpListIn _ _ _ _ _ (⟨none, _, _, _, _, _⟩ :: _) _ _); refine wpListIn_store_mid rfl 49 _ _ rfl g4 0 (ck.map W8).toArray rfl rfl hth (Try.arr16.trans (by simp [hckl])) (all_oneCell_toArray (ones8 ck)) ?_))
      obtain ⟨V2, hV2⟩ : ∃ V, V1.setCells g4 0 (ck.map W8) = V := ⟨_, rfl⟩
      rw [hV2] at HSET HBS
      rw [hV2]
      have hsl := HSET.out.sl (by rw [hckm]; decide)
      rw [hckm] at hsl
      have hcl := clone_any V2 V2.heap.size ⟨g4, 0, none⟩ 16 16 ck hsl (Nat.le_refl _) (by decide)
      clear hV2 e1 hth hrng hg4
      refine ⟨trivial, (callsIn_wide.2 hcl).mono ?_⟩
      rintro e w1 ⟨v1, rfl, hown1, hb1⟩
      obtain ⟨A1, c1', rfl, hsl1, hlow1, _⟩ := SlV.of_own hown1
      have hsz2 : g4 ≤ V2.heap.size := by have := HBS.out.size; rw [HG4.out] at this; exact this
      have hb01 : Below wr.heap.size wr w1 := by rw [HG4.out]; exact HBS.out.trans (hb1.mono hsz2)
      have hJ1 := hJ pre wr w1 none hJs (grownNo hb01) (fun r e => by cases e)
      have HX := Lib.hid (show KyR bs top pre ⟨k, A1, 16, c1'⟩ w1 from ⟨HPL.out.symm, by rw [HPL.out, HCK.out]; exact hsl1, rfl, fun b off s h => Nat.le_trans (Nat.le_trans hWr hsz2) (hlow1 b off s h)⟩)
      obtain ⟨fn, tmps, assign, body, hy, hRd⟩ := HY.out pre ⟨k, A1, 16, c1'⟩ w1 hJ1 HX.out (by rw [HPL.out]; omega)
      dsimp only [encK] at hy
      have HK1 := Lib.hid (HK.out.trans (KpE.below hb01 (by rw [HG4.out]; exact hWr)))
      clear hb01 hJ1 hsl1 hlow1 hown1 hb1 hsl r1
      gi_wp2
      refine hRd.mono ?_
      rintro e W3 (⟨rfl, hJ3, hKp⟩ | ⟨rfl, hJx3⟩)
      · have HK3 := Lib.hid (HK1.out.trans hKp)
        clear hKp
        gi_wp2
        go_roundw
        case rel => exact ⟨k + 1, pre ++ [⟨k, A1, 16, c1'⟩], by omega, by go_num, by simp [HPL.out], HK3, hJ3⟩
        case measure => simp [intOf]; omega
      · gi_wp2
        refine bodyPost_ret (results_none rfl _ _ _) rfl ?_
        exact ⟨⟨_, rfl⟩, .inr ⟨_, trivial, hJx3⟩⟩
end Go.Proofs.Ytabhdkjepbkooaa

/- Nothing but one block has turned (what the hash texts have). -/
set_option linter.unusedVariables false
set_option linter.unusedSimpArgs false
namespace Go.Proofs.Ytabhdkjepbkooaa
open Go.RowKit

/-- nothing but block g (and what is new) has turned -/
abbrev OnlyV (w w' : World) (g : Nat) : Prop := w.grownBy w' (some g)
theorem OnlyV.refl (w : World) (g : Nat) : OnlyV w w g := World.grownBy.refl w _
theorem OnlyV.trans {a b c : World} {g : Nat} (h : OnlyV a b g) (k : OnlyV b c g) : OnlyV a c g :=
  ⟨k.os.trans h.os, k.tape.trans h.tape, k.output.trans h.output, Nat.le_trans h.size k.size, fun i hi hn => (k.block i (Nat.lt_of_lt_of_le hi h.size) hn).trans (h.block i hi hn)⟩
theorem OnlyV.of_below {a w : World} (h : Below a.heap.size a w) (g : Nat) : OnlyV a w g := ⟨h.os, h.tape, h.output, h.size, fun i hi _ => h.block i hi⟩
theorem OnlyV.drewN {a w : World} {g : Nat} (h : OnlyV a w g) (n : Nat) : OnlyV a (w.drewN n) g := ⟨h.os, h.tape, h.output, h.size, h.block⟩
theorem OnlyV.below {a w : World} {g B : Nat} (h : OnlyV a w g) (hB : B ≤ g) (hs : B ≤ a.heap.size) : Below B a w :=
  ⟨h.os, h.tape, h.output, h.size, fun i hi => h.block i (by omega) (fun e => by injection e; omega)⟩
theorem OnlyV.set {a w : World} {g : Nat} (h : OnlyV a w g) (i : Nat) (u : Value) : OnlyV a (w.setCell ⟨g, i, none⟩ u) g :=
  h.trans ⟨rfl, rfl, rfl, by simp [World.setCell], fun k _ hn => Below.heap_setCell _ _ _ _ (fun e => hn (by rw [e]))⟩
theorem OnlyV.sets {a : World} {g : Nat} : ∀ (ys : List Value) (o : Nat) (w : World), OnlyV a w g → OnlyV a (w.setCells g o ys) g
  | [], _, _, h => h
  | y :: r, o, _, h => OnlyV.sets r (o + 1) _ (h.set o y)

theorem OnlyV.grown {a w w' : World} {g : Nat} (h : OnlyV a w g) {row : Option Nat} (hg : w.grownBy w' row) (hr : ∀ r, row = some r → a.heap.size ≤ r) : OnlyV a w' g :=
  ⟨hg.os.trans h.os, hg.tape.trans h.tape, hg.output.trans h.output, Nat.le_trans h.size hg.size, fun i hi hn => (hg.block i (Nat.lt_of_lt_of_le hi h.size) (fun e => by have := hr i e.symm; omega)).trans (h.block i hi hn)⟩
theorem RowV.only {t : TypeId} {A B : World} {g ex : Nat} {vs : List Value} (h : RowV t A g vs) (hk : OnlyV A B ex) (h1 : g ≠ ex) : RowV t B g vs := (hk.block g h.lt (fun e => h1 (by injection e))).trans h
end Go.Proofs.Ytabhdkjepbkooaa

/- aescore: Keys; Encrypt. -/
set_option linter.unusedVariables false
set_option linter.unusedSimpArgs false
namespace Go.Proofs.Ytabhdkjepbkooaa
open Go.RowKit
attribute [local go_sem] Try.zeroValue47 Try.zeroCells47_size Try.zeroCells47_ne
attribute [local go_sem] Oper.semAt_some

theorem RowV.range0 {t : TypeId} {w : World} {g : Nat} {vs : List Value} (h : RowV t w g vs) : w.rangeAt g 0 vs := fun j v hv => by
  rw [Nat.zero_add]; exact h.at_ hv
theorem RowV.setAll {t : TypeId} {w : World} {g : Nat} {vs : List Value} (h : RowV t w g vs) (ys : List Value) (hl : ys.length = vs.length) : RowV t (w.setCells g 0 ys) g ys := by
  have h2 := h.setMany ys 0 w vs (by omega)
  rwa [List.take_zero, Nat.zero_add, hl, List.drop_length, List.append_nil, List.nil_append] at h2
theorem RowV.thereAll {t : TypeId} {w : World} {g : Nat} {vs : List Value} (h : RowV t w g vs) (n : Nat) (hl : n = vs.length) : w.there g 0 n := h.there 0 n (by omega)
theorem SlV.kept_only {A B' : World} {g n c : Nat} {p : Option Addr} {vs : List Value} (h : SlV A A.heap.size p n c vs) (hk : OnlyV A B' g) (hp : ∀ b off s, p = some ⟨b, off, s⟩ → b ≠ g) : SlV B' B'.heap.size p n c vs :=
  ⟨h.1, h.2.1, h.2.2.1, fun hn => by
    obtain ⟨b, off, e, hlt, hc⟩ := h.2.2.2 hn
    refine ⟨b, off, e, Nat.lt_of_lt_of_le hlt hk.size, fun k v hv => ?_⟩
    have h1 := hc k v hv
    have h2 := hk.block b hlt (fun e2 => hp b off none e (by injection e2))
    unfold World.cell? at h1 ⊢
    simp only [h2]
    exact h1⟩
theorem KpE.only {A B : World} {g hi : Nat} (h : OnlyV A B g) (hh : hi ≤ A.heap.size) : KpE g hi A B := ⟨h.size, fun q hq hl => h.block q (by omega) (fun e => hq (by injection e))⟩

set_option maxRecDepth 100000 in
set_option maxHeartbeats 1600000 in
theorem keys_any (w : World) (g gk C : Nat) (hr : RowV 42 w g [.slice (some ⟨gk, 0, none⟩) C C]) : Calls Try.prog 12 #[.pointer (some ⟨g, 0, none⟩)] w fun e w' =>
    ∃ g1, e = .returned (.func (.func 31) #[] #[.pointer (some ⟨g1, 0, none⟩)]) ∧ w.heap.size ≤ g1 ∧ RowV 39 w' g1 [.slice (some ⟨gk, 0, none⟩) C C] ∧ Below w.heap.size w w' := by
  obtain ⟨W1, e1, r1, b1, z1⟩ := newV w 39 [.slice none 0 0] #[.slice none 0 0] rfl
  have hc := (hr.later b1).at_ (i := 0) (v := .slice (some ⟨gk, 0, none⟩) C C) rfl
  obtain ⟨g1, hg1⟩ : ∃ x, w.heap.size = x := ⟨_, rfl⟩
  rw [hg1] at r1 b1
  have hc1 := r1.at_ (i := 0) (v := .slice none 0 0) rfl
  have hf1 := r1.frozen 0
  have hr2 := r1.set 0 (.slice (some ⟨gk, 0, none⟩) C C)
  have hb2 := below_setV b1 (Nat.le_refl _) 0 (.slice (some ⟨gk, 0, none⟩) C C)
  have HH := Lib.hid (And.intro hr2 hb2)
  have HG := Lib.hid hg1
  clear hr2 hb2 r1 b1 hr z1
  go_enter Try.func12, Try.ntmps12
  go_wp2
  go_ret
  refine ⟨g1, rfl, by rw [HG.out]; exact Nat.le_refl _, ?_, ?_⟩
  · exact HH.out.1
  · rw [HG.out]; exact HH.out.2

/-- how far Encrypt has come -/
def EncI (w0 : World) (g last : Nat) (ks : List (List (BitVec 8))) (b : List (BitVec 8)) (pre : List KyX) (W : World) : Prop :=
  OnlyV w0 W g ∧ RowV 50 W g ((encL last 0 (ks.take pre.length) b).map W8)
theorem EncI.own (w0 : World) (g last : Nat) (ks : List (List (BitVec 8))) (b : List (BitVec 8)) : OwnFrom w0.heap.size (EncI w0 g last ks b) := fun s W W' row hs hg hr =>
  ⟨hs.1.grown hg (fun r e => (hr r e).1), hs.2.kept hg (fun r e => (hr r e).2)⟩
set_option maxRecDepth 100000 in
set_option maxHeartbeats 8000000 in
theorem encrypt_any (w : World) (g : Nat) (key : List (BitVec 8)) (hR : CipherR w g key) (B : Nat) (A : Option Addr) (n c : Nat) (bs : List (BitVec 8)) (hs : SlV w B A n c (bs.map W8)) (hB : B ≤ w.heap.size) (hn : n = 16) : Calls Try.prog 10 #[.pointer (some ⟨g, 0, none⟩), .slice A n c] w fun e w' =>
    ∃ g', e = .returned (.slice (some ⟨g', 0, none⟩) 16 16) ∧ w.heap.size ≤ g' ∧ RowV 50 w' g' ((encA key bs).map W8) ∧ Below w.heap.size w w' := by
  have hbl : bs.length = 16 := by have := hs.len; simp at this; omega
  have htk := takes_any w g key hR A n c hn
  obtain ⟨gk, hrg, hrk⟩ := hR.rows
  obtain ⟨C, hC⟩ : ∃ C, cntL key.length = C := ⟨_, rfl⟩
  have hCb : 11 ≤ C ∧ C ≤ 15 := by rw [← hC]; unfold cntL; rcases hR.len with h | h | h <;> omega
  rw [hC] at hrg
  obtain ⟨b, off, v0, rfl, hlt, hv0, _⟩ := hs.at_ (k := 0) (by omega)
  have hrng : w.rangeAt b off (bs.map W8) := by
    obtain ⟨b', o', e, _, hc⟩ := hs.2.2.2 (by intro e; rw [e] at hv0; simp at hv0)
    injection e with e
    injection e with e1 e2
    subst e1 e2
    exact hc
  subst hn
  have hltw : b < w.heap.size := by omega
  clear hv0 hs hlt
  obtain ⟨z, hz⟩ : ∃ z, w.heap.size = z := ⟨_, rfl⟩
  have hgz : g < z := by rw [← hz]; exact hrg.lt
  have hkz : gk < z := by rw [← hz]; exact hrk.lt
  rw [hz] at hltw
  have hsb := sbox_any w
  rw [hz] at hsb
  have HTK := Lib.hid htk
  have HSB := Lib.hid hsb
  have HZ := Lib.hid hz
  have HRG := Lib.hid hrg
  have HRK := Lib.hid hrk
  have HRN := Lib.hid hrng
  have HC := Lib.hid hC
  have HBL := Lib.hid hbl
  have hlb : (boxL.map W8).length = 256 := by kernel_rfl
  have k1 : (11 : Int) ≤ C := by omega
  have k2 : (C : Int) ≤ 15 := by omega
  obtain ⟨last, hlast⟩ : ∃ l, C - 1 = l := ⟨_, rfl⟩
  have hlI : (C : Int) - 1 = (last : Int) := by omega
  have HLA := Lib.hid hlast
  have hKL := hR.len
  clear htk hsb hz hrg hrk hrng hC hR hlast
  refine (callsIn_wide (n := 9)).1 ?_
  refine callsIn_of_wp_marks Try.func10 rfl trivial ?_ rfl
  simp only [Try.ntmps10, List.size_toArray, List.length_cons, List.length_nil, Nat.reduceAdd, Nat.reduceSub, Array.replicate_succ, Array.replicate_zero, List.push_toArray, List.append_toArray, List.nil_append, List.cons_append]
  gi_wp2_with fail
  refine ⟨trivial, (callsIn_wide.2 HTK.out).mono ?_⟩
  rintro e w' ⟨rfl, rfl⟩
  gi_wp2_with fail
  refine ⟨trivial, (callsIn_wide.2 HSB.out).mono ?_⟩
  rintro e V1 ⟨rfl, b1⟩
  obtain ⟨V2, e2, r2, b2, z2⟩ := new256 V1
  obtain ⟨g5, hg5⟩ : ∃ x, V1.heap.size = x := ⟨_, rfl⟩
  have hz5 : z ≤ g5 := by have := b1.size; have := HZ.out; omega
  rw [hg5] at r2 b2
  obtain ⟨V3, e3⟩ : ∃ V, V2.setCells g5 0 (boxL.map W8) = V := ⟨_, rfl⟩
  have r3 : RowV 47 V3 g5 (boxL.map W8) := by rw [← e3]; exact r2.setAll _ (by rw [hlb]; simp)
  have b3 : Below z w V3 := by rw [← e3]; exact below_setMany hz5 _ 0 w V2 (b1.trans (b2.mono hz5))
  have th2 := r2.thereAll (boxL.map W8).toArray.size (by rw [List.size_toArray, hlb]; simp)
  obtain ⟨V4, e4, r4, b4, z4⟩ := newV V3 3 [.int .i64 0] #[.int .i64 0] rfl
  obtain ⟨g6, hg6⟩ : ∃ x, V3.heap.size = x := ⟨_, rfl⟩
  have h56 : g5 < g6 := by rw [← hg6]; exact r3.lt
  rw [hg6] at r4 b4
  have c6 := r4.at_ (i := 0) (v := .int .i64 0) rfl
  have f6 := r4.frozen 0
  obtain ⟨V5, e5⟩ : ∃ V, V4.setCell ⟨g6, 0, none⟩ (.int .i64 (last : Int)) = V := ⟨_, rfl⟩
  have r5 : RowV 3 V5 g6 [.int .i64 (last : Int)] := by rw [← e5]; exact r4.set 0 _
  have b35 : Below g6 V3 V5 := by rw [← e5]; exact below_setV b4 (Nat.le_refl _) 0 _
  obtain ⟨V6, e6, r6, b6, z6⟩ := newZ V5
  obtain ⟨g7, hg7⟩ : ∃ x, V5.heap.size = x := ⟨_, rfl⟩
  have h67 : g6 < g7 := by rw [← hg7]; exact r5.lt
  rw [hg7] at r6 b6
  have hbm : (bs.map W8).length = 16 := by rw [List.length_map]; exact HBL.out
  obtain ⟨V7, e7⟩ : ∃ V, V6.setCells g7 0 (bs.map W8) = V := ⟨_, rfl⟩
  have r7 : RowV 50 V7 g7 (bs.map W8) := by rw [← e7]; exact r6.setAll _ (by rw [hbm]; simp)
  have th6 := r6.thereAll (bs.map W8).toArray.size (by rw [List.size_toArray, hbm]; simp)
  have b57 : Below g7 V5 V7 := by rw [← e7]; exact below_setMany (Nat.le_refl _) _ 0 V5 V6 b6
  have b05 : Below z w V5 := b3.trans (b35.mono (by omega))
  have b07 : Below z w V7 := b05.trans (b57.mono (by omega))
  have cg : V3.cell? ⟨g, 0, none⟩ = some (.slice (some ⟨gk, 0, none⟩) C C) := (HRG.out.below b3 hgz).at_ rfl
  have hrng5 : V5.rangeAt b off (bs.map W8) := fun j v hv => (b05.cell (p := ⟨b, off + j, none⟩) hltw).trans (HRN.out j v hv)
  have hat : ∀ w, (Instr.arrayAt 50 (.slice (some ⟨b, off, none⟩) 16 c)).run Try.prog w = .ok (.pointer (some ⟨b, off, none⟩)) w := fun w => by
    simp [Instr.arrayAt, run_underlying Try.underlying50]
  have HR5 := Lib.hid ((r3.below b35 h56).below b57 (by omega))
  have HR6 := Lib.hid (r5.below b57 h67)
  have HR7 := Lib.hid r7
  have HB7 := Lib.hid b07
  have hky := keys_any V7 g gk C (HRG.out.below b07 hgz)
  have HKY := Lib.hid hky
  have HL := Lib.hid (And.intro hz5 (And.intro h56 h67))
  clear b1 b2 b3 b4 b35 b6 b57 b05 b07 r2 r3 r4 r5 r6 r7 z2 z4 z6 hky hz5
  gi_wp2_with (first | ((with_reducible show wpListIn _ _ _ _ _ (⟨some 23, _, _, _, _, _⟩ :: _) _ _); refine wpListIn_load_mid rfl 50 _ rfl b off rfl (bs.map W8) _ hrng5 Try.underlying50 rfl (Try.arrS.trans (by rw [hbm])) ?_) | ((with_reducible show wpListIn _ _ _ _ _ (⟨none, Op.store 47 _ _, _, _, _, _⟩ :: _) _ _); refine wpListIn_store_mid rfl 47 _ _ rfl g5 0 (boxL.map W8).toArray rfl rfl th2 (Try.arr256.trans (by rw [List.size_toArray, hlb])) (all_oneCell_toArray (ones8 boxL)) ?_; (try rw [List.toList_toArray]); rw [e3]) | ((with_reducible show wpListIn _ _ _ _ _ (⟨none, Op.store 50 _ _, _, _, _, _⟩ :: _) _ _); refine wpListIn_store_mid rfl 50 _ _ rfl g7 0 (bs.map W8).toArray rfl rfl th6 (Try.arrS.trans (by rw [List.size_toArray, hbm])) (all_oneCell_toArray (ones8 bs)) ?_; (try rw [List.toList_toArray]); rw [e7]))
  refine ⟨trivial, (callsIn_wide.2 HKY.out).mono ?_⟩
  rintro e V8 ⟨g1, rfl, hg1, hr1, hb8⟩
  have hg7l : g7 < V7.heap.size := HR7.out.lt
  have hkl8 : RowV 49 V8 gk ((wholeL key).map W8) := (HRK.out.below HB7.out hkz).later hb8
  have hl := HL.out
  have hseq := keys1_in 8 (by decide) V8 g7 g1 gk C (wholeL key) hr1 hkl8 (by rw [wholeL_length key hKL, HC.out]) (by omega) (by omega) (by omega)
  have HSEQ := Lib.hid hseq
  have HR58 := Lib.hid (HR5.out.later hb8)
  have HR68 := Lib.hid (HR6.out.later hb8)
  have HR78 := Lib.hid (HR7.out.later hb8)
  have hz7 : z ≤ V7.heap.size := by have := HB7.out.size; have := HZ.out; omega
  have HB8 := Lib.hid (HB7.out.trans (hb8.mono hz7))
  have hg78 : g7 < V8.heap.size := HR78.out.lt
  have HKL := Lib.hid hKL
  clear hseq hb8 hkl8 hr1 hKL
  gi_wp2_with fail
  refine wpIn_rangeP rfl (by decide) (gf := 31) (lb := #[.pointer (some ⟨g1, 0, none⟩)]) rfl trivial (enters_of Try.func31 (by kernel_rfl) rfl)
    HSEQ.out (fun a b => a.trans b) (fun W l o o' hl ho _ _ => KpE.put hl ho) (fun _ => rfl)
    (EncI V8 g7 last (keysL key) bs) (fun _ _ _ => False) (EncI.own _ _ _ _ _) (fun _ _ _ _ _ h _ _ => h.elim) (fun pre => KyR.own _ _ _ pre) ?hI0 ?a1x ?assign ?body ?done ?stop
  case hI0 => exact ⟨OnlyV.refl _ _, HR78.out⟩
  case assign =>
    intro l x W K hK
    gi_wp2
    exact hK
  case body =>
    rintro l pre ⟨i, Ap, np, cp⟩ W ⟨hO, hS⟩ ⟨hxi, hsx, hxn, hlow⟩ hpl
    dsimp only at hxi hsx hxn hlow
    subst hxi
    subst hxn
    obtain ⟨kb, hkb⟩ : ∃ l, keyAt (wholeL key) pre.length = l := ⟨_, rfl⟩
    rw [hkb] at hsx
    obtain ⟨st, hst⟩ : ∃ l, encL last 0 ((keysL key).take pre.length) bs = l := ⟨_, rfl⟩
    rw [hst] at hS
    have hst16 : st.length = 16 := by rw [← hst]; exact encL_length _ _ _ _ HBL.out
    have HKB := Lib.hid (show (keysL key)[pre.length]? = some kb by rw [← hkb]; exact keysL_get key pre.length (by rw [HC.out]; exact hpl))
    have hlt : ((keysL key).take pre.length).length = pre.length := by rw [List.length_take, keysL_length, HC.out]; omega
    have HLT := Lib.hid hlt
    have HST := Lib.hid hst
    have HRWW := Lib.hid hS
    have HOW := Lib.hid hO
    have HOWW := Lib.hid hO
    obtain ⟨pl, hpll⟩ : ∃ x, pre.length = x := ⟨_, rfl⟩
    rw [hpll] at HKB HLT HST hpl ⊢
    have HPL := Lib.hid hpll
    have hlow7 : ∀ b off s, Ap = some ⟨b, off, s⟩ → b ≠ g7 := fun b off s h e => by have := hlow b off s h; omega
    clear hkb hst hS hO hlt hlow hpll
    by_cases hp0 : pl = 0
    · have hp0I : ¬ (0 : Int) < (pl : Int) := by omega
      have HP0 := Lib.hid hp0
      clear hp0
      have lmW : (st.map W8).length = 16 := by rw [List.length_map]; exact hst16
      have rgW := HRWW.out.range0
      have rbW := (HR58.out.only HOWW.out (show g5 ≠ g7 by omega)).range0
      have clW : W.cell? ⟨g6, 0, none⟩ = some (.int .i64 (last : Int)) := (HR68.out.only HOWW.out (show g6 ≠ g7 by omega)).at_ rfl
      gi_wp2_with (first | ((with_reducible show wpListIn _ _ _ _ _ (⟨some 42, _, _, _, _, _⟩ :: _) _ _); refine wpListIn_load_mid rfl 50 _ rfl g7 0 rfl (st.map W8) _ rgW Try.underlying50 rfl (Try.arrS.trans (by rw [lmW])) ?_))
      refine ⟨trivial, (CallsIn.inRound l (callsIn_wide.2 (add_any W st hst16 W.heap.size Ap 16 cp kb hsx (Nat.le_refl _) rfl))).mono ?_⟩
      rintro e U1 ⟨rfl, hbWa⟩
      obtain ⟨s1, hs1⟩ : ∃ l, addV st kb = l := ⟨_, rfl⟩
      have hs1l : s1.length = 16 := by rw [← hs1]; exact addV_length _ _
      rw [hs1]
      have HS1 := Lib.hid hs1
      have rUWa := HRWW.out.later hbWa
      obtain ⟨Wa, eWa⟩ : ∃ V, U1.setCells g7 0 (s1.map W8) = V := ⟨_, rfl⟩
      have lm2Wa : (s1.map W8).length = 16 := by rw [List.length_map]; exact hs1l
      have thWa := rUWa.thereAll (s1.map W8).toArray.size (by rw [List.size_toArray, lm2Wa, lmW])
      have HRWWa := Lib.hid (show RowV 50 Wa g7 (s1.map W8) by rw [← eWa]; exact rUWa.setAll _ (by rw [lm2Wa, lmW]))
      have HOWWa := Lib.hid (show OnlyV V8 Wa g7 by rw [← eWa]; exact OnlyV.sets _ _ _ (HOWW.out.trans (OnlyV.of_below hbWa g7)))
      have HOOWa := Lib.hid (show OnlyV W Wa g7 by rw [← eWa]; exact OnlyV.sets _ _ _ ((OnlyV.of_below hbWa g7)))
      clear rUWa hbWa rgW rbW clW
      clear hs1
      gi_wp2_with (first | ((with_reducible show wpListIn _ _ _ _ _ (⟨none, Op.store 50 _ _, _, _, _, _⟩ :: _) _ _); refine wpListIn_store_mid rfl 50 _ _ rfl g7 0 (s1.map W8).toArray rfl rfl thWa (Try.arrS.trans (by rw [List.size_toArray, lm2Wa])) (all_oneCell_toArray (ones8 s1)) ?_; (try rw [List.toList_toArray]); rw [eWa]))
      refine ⟨⟨HOOWa.out.size, fun k o hk hh _ => (HOOWa.out.block k (Array.getElem?_eq_some_iff.1 hh).1 (fun e => by injection e; omega)).trans hh⟩, KpE.only HOOWa.out HOW.out.size, HOWWa.out, ?_⟩
      rw [List.length_append, List.length_singleton, List.take_add_one, HPL.out, HKB.out, Option.toList_some, encL_snoc, Nat.zero_add, HLT.out, HST.out]
      have h := HRWWa.out
      rw [← HS1.out] at h
      unfold encR
      rw [if_neg (by have := HP0.out; omega)]
      exact h
    · have hp0I : (0 : Int) < (pl : Int) := by omega
      have HP0 := Lib.hid hp0
      clear hp0
      by_cases hpl2 : pl < last
      · have hplI : (pl : Int) < (last : Int) := by omega
        have lmW : (st.map W8).length = 16 := by rw [List.length_map]; exact hst16
        have rgW := HRWW.out.range0
        have rbW := (HR58.out.only HOWW.out (show g5 ≠ g7 by omega)).range0
        have clW : W.cell? ⟨g6, 0, none⟩ = some (.int .i64 (last : Int)) := (HR68.out.only HOWW.out (show g6 ≠ g7 by omega)).at_ rfl
        gi_wp2_with (first | ((with_reducible show wpListIn _ _ _ _ _ (⟨some 30, _, _, _, _, _⟩ :: _) _ _); refine wpListIn_load_mid rfl 50 _ rfl g7 0 rfl (st.map W8) _ rgW Try.underlying50 rfl (Try.arrS.trans (by rw [lmW])) ?_) | ((with_reducible show wpListIn _ _ _ _ _ (⟨some 31, _, _, _, _, _⟩ :: _) _ _); refine wpListIn_load_mid rfl 47 _ rfl g5 0 rfl (boxL.map W8) _ rbW Try.underlying47 rfl (Try.arr256.trans (by rw [hlb])) ?_))
        refine ⟨trivial, (CallsIn.inRound l (callsIn_wide.2 (replace_any W st hst16 boxL boxL_length))).mono ?_⟩
        rintro e U1 ⟨rfl, hbWa⟩
        obtain ⟨s1, hs1⟩ : ∃ l, replV st = l := ⟨_, rfl⟩
        have hs1l : s1.length = 16 := by rw [← hs1]; exact replV_length _
        rw [replB_box, hs1]
        have HS1 := Lib.hid hs1
        have rUWa := HRWW.out.later hbWa
        obtain ⟨Wa, eWa⟩ : ∃ V, U1.setCells g7 0 (s1.map W8) = V := ⟨_, rfl⟩
        have lm2Wa : (s1.map W8).length = 16 := by rw [List.length_map]; exact hs1l
        have thWa := rUWa.thereAll (s1.map W8).toArray.size (by rw [List.size_toArray, lm2Wa, lmW])
        have HRWWa := Lib.hid (show RowV 50 Wa g7 (s1.map W8) by rw [← eWa]; exact rUWa.setAll _ (by rw [lm2Wa, lmW]))
        have HOWWa := Lib.hid (show OnlyV V8 Wa g7 by rw [← eWa]; exact OnlyV.sets _ _ _ (HOWW.out.trans (OnlyV.of_below hbWa g7)))
        have HOOWa := Lib.hid (show OnlyV W Wa g7 by rw [← eWa]; exact OnlyV.sets _ _ _ ((OnlyV.of_below hbWa g7)))
        clear rUWa hbWa rgW rbW clW
        clear hs1
        have lmWa : (s1.map W8).length = 16 := by rw [List.length_map]; exact hs1l
        have rgWa := HRWWa.out.range0
        have rbWa := (HR58.out.only HOWWa.out (show g5 ≠ g7 by omega)).range0
        have clWa : Wa.cell? ⟨g6, 0, none⟩ = some (.int .i64 (last : Int)) := (HR68.out.only HOWWa.out (show g6 ≠ g7 by omega)).at_ rfl
        gi_wp2_with (first | ((with_reducible show wpListIn _ _ _ _ _ (⟨none, Op.store 50 _ _, _, _, _, _⟩ :: _) _ _); refine wpListIn_store_mid rfl 50 _ _ rfl g7 0 (s1.map W8).toArray rfl rfl thWa (Try.arrS.trans (by rw [List.size_toArray, lm2Wa])) (all_oneCell_toArray (ones8 s1)) ?_; (try rw [List.toList_toArray]); rw [eWa]) | ((with_reducible show wpListIn _ _ _ _ _ (⟨some 40, _, _, _, _, _⟩ :: _) _ _); refine wpListIn_load_mid rfl 50 _ rfl g7 0 rfl (s1.map W8) _ rgWa Try.underlying50 rfl (Try.arrS.trans (by rw [lmWa])) ?_))
        refine ⟨trivial, (CallsIn.inRound l (callsIn_wide.2 (mix_any Wa s1 hs1l))).mono ?_⟩
        rintro e U2 ⟨rfl, hbWb⟩
        obtain ⟨s2, hs2⟩ : ∃ l, mixS s1 = l := ⟨_, rfl⟩
        have hs2l : s2.length = 16 := by rw [← hs2]; exact mixS_length _
        rw [hs2]
        have HS2 := Lib.hid hs2
        have rUWb := HRWWa.out.later hbWb
        obtain ⟨Wb, eWb⟩ : ∃ V, U2.setCells g7 0 (s2.map W8) = V := ⟨_, rfl⟩
        have lm2Wb : (s2.map W8).length = 16 := by rw [List.length_map]; exact hs2l
        have thWb := rUWb.thereAll (s2.map W8).toArray.size (by rw [List.size_toArray, lm2Wb, lmWa])
        have HRWWb := Lib.hid (show RowV 50 Wb g7 (s2.map W8) by rw [← eWb]; exact rUWb.setAll _ (by rw [lm2Wb, lmWa]))
        have HOWWb := Lib.hid (show OnlyV V8 Wb g7 by rw [← eWb]; exact OnlyV.sets _ _ _ (HOWWa.out.trans (OnlyV.of_below hbWb g7)))
        have HOOWb := Lib.hid (show OnlyV W Wb g7 by rw [← eWb]; exact OnlyV.sets _ _ _ (HOOWa.out.trans (OnlyV.of_below hbWb g7)))
        clear rUWb hbWb rgWa rbWa clWa
        clear hs2
        have lmWb : (s2.map W8).length = 16 := by rw [List.length_map]; exact hs2l
        have rgWb := HRWWb.out.range0
        have rbWb := (HR58.out.only HOWWb.out (show g5 ≠ g7 by omega)).range0
        have clWb : Wb.cell? ⟨g6, 0, none⟩ = some (.int .i64 (last : Int)) := (HR68.out.only HOWWb.out (show g6 ≠ g7 by omega)).at_ rfl
        gi_wp2_with (first | ((with_reducible show wpListIn _ _ _ _ _ (⟨none, Op.store 50 _ _, _, _, _, _⟩ :: _) _ _); refine wpListIn_store_mid rfl 50 _ _ rfl g7 0 (s2.map W8).toArray rfl rfl thWb (Try.arrS.trans (by rw [List.size_toArray, lm2Wb])) (all_oneCell_toArray (ones8 s2)) ?_; (try rw [List.toList_toArray]); rw [eWb]) | ((with_reducible show wpListIn _ _ _ _ _ (⟨some 42, _, _, _, _, _⟩ :: _) _ _); refine wpListIn_load_mid rfl 50 _ rfl g7 0 rfl (s2.map W8) _ rgWb Try.underlying50 rfl (Try.arrS.trans (by rw [lmWb])) ?_))
        have hsx2 := (hsx.kept_only HOOWb.out hlow7)
        refine ⟨trivial, (CallsIn.inRound l (callsIn_wide.2 (add_any Wb s2 hs2l Wb.heap.size Ap 16 cp kb hsx2 (Nat.le_refl _) rfl))).mono ?_⟩
        rintro e U3 ⟨rfl, hbWc⟩
        obtain ⟨s3, hs3⟩ : ∃ l, addV s2 kb = l := ⟨_, rfl⟩
        have hs3l : s3.length = 16 := by rw [← hs3]; exact addV_length _ _
        rw [hs3]
        have HS3 := Lib.hid hs3
        have rUWc := HRWWb.out.later hbWc
        obtain ⟨Wc, eWc⟩ : ∃ V, U3.setCells g7 0 (s3.map W8) = V := ⟨_, rfl⟩
        have lm2Wc : (s3.map W8).length = 16 := by rw [List.length_map]; exact hs3l
        have thWc := rUWc.thereAll (s3.map W8).toArray.size (by rw [List.size_toArray, lm2Wc, lmWb])
        have HRWWc := Lib.hid (show RowV 50 Wc g7 (s3.map W8) by rw [← eWc]; exact rUWc.setAll _ (by rw [lm2Wc, lmWb]))
        have HOWWc := Lib.hid (show OnlyV V8 Wc g7 by rw [← eWc]; exact OnlyV.sets _ _ _ (HOWWb.out.trans (OnlyV.of_below hbWc g7)))
        have HOOWc := Lib.hid (show OnlyV W Wc g7 by rw [← eWc]; exact OnlyV.sets _ _ _ (HOOWb.out.trans (OnlyV.of_below hbWc g7)))
        clear rUWc hbWc rgWb rbWb clWb
        clear hs3
        gi_wp2_with (first | ((with_reducible show wpListIn _ _ _ _ _ (⟨none, Op.store 50 _ _, _, _, _, _⟩ :: _) _ _); refine wpListIn_store_mid rfl 50 _ _ rfl g7 0 (s3.map W8).toArray rfl rfl thWc (Try.arrS.trans (by rw [List.size_toArray, lm2Wc])) (all_oneCell_toArray (ones8 s3)) ?_; (try rw [List.toList_toArray]); rw [eWc]))
        refine ⟨⟨HOOWc.out.size, fun k o hk hh _ => (HOOWc.out.block k (Array.getElem?_eq_some_iff.1 hh).1 (fun e => by injection e; omega)).trans hh⟩, KpE.only HOOWc.out HOW.out.size, HOWWc.out, ?_⟩
        rw [List.length_append, List.length_singleton, List.take_add_one, HPL.out, HKB.out, Option.toList_some, encL_snoc, Nat.zero_add, HLT.out, HST.out]
        have h := HRWWc.out
        rw [← HS3.out, ← HS2.out, ← HS1.out] at h
        unfold encR
        rw [if_pos (by have := HP0.out; omega), if_pos (by omega)]
        exact h
      · have hplI : ¬ (pl : Int) < (last : Int) := by omega
        have lmW : (st.map W8).length = 16 := by rw [List.length_map]; exact hst16
        have rgW := HRWW.out.range0
        have rbW := (HR58.out.only HOWW.out (show g5 ≠ g7 by omega)).range0
        have clW : W.cell? ⟨g6, 0, none⟩ = some (.int .i64 (last : Int)) := (HR68.out.only HOWW.out (show g6 ≠ g7 by omega)).at_ rfl
        gi_wp2_with (first | ((with_reducible show wpListIn _ _ _ _ _ (⟨some 30, _, _, _, _, _⟩ :: _) _ _); refine wpListIn_load_mid rfl 50 _ rfl g7 0 rfl (st.map W8) _ rgW Try.underlying50 rfl (Try.arrS.trans (by rw [lmW])) ?_) | ((with_reducible show wpListIn _ _ _ _ _ (⟨some 31, _, _, _, _, _⟩ :: _) _ _); refine wpListIn_load_mid rfl 47 _ rfl g5 0 rfl (boxL.map W8) _ rbW Try.underlying47 rfl (Try.arr256.trans (by rw [hlb])) ?_))
        refine ⟨trivial, (CallsIn.inRound l (callsIn_wide.2 (replace_any W st hst16 boxL boxL_length))).mono ?_⟩
        rintro e U1 ⟨rfl, hbWa⟩
        obtain ⟨s1, hs1⟩ : ∃ l, replV st = l := ⟨_, rfl⟩
        have hs1l : s1.length = 16 := by rw [← hs1]; exact replV_length _
        rw [replB_box, hs1]
        have HS1 := Lib.hid hs1
        have rUWa := HRWW.out.later hbWa
        obtain ⟨Wa, eWa⟩ : ∃ V, U1.setCells g7 0 (s1.map W8) = V := ⟨_, rfl⟩
        have lm2Wa : (s1.map W8).length = 16 := by rw [List.length_map]; exact hs1l
        have thWa := rUWa.thereAll (s1.map W8).toArray.size (by rw [List.size_toArray, lm2Wa, lmW])
        have HRWWa := Lib.hid (show RowV 50 Wa g7 (s1.map W8) by rw [← eWa]; exact rUWa.setAll _ (by rw [lm2Wa, lmW]))
        have HOWWa := Lib.hid (show OnlyV V8 Wa g7 by rw [← eWa]; exact OnlyV.sets _ _ _ (HOWW.out.trans (OnlyV.of_below hbWa g7)))
        have HOOWa := Lib.hid (show OnlyV W Wa g7 by rw [← eWa]; exact OnlyV.sets _ _ _ ((OnlyV.of_below hbWa g7)))
        clear rUWa hbWa rgW rbW clW
        clear hs1
        have lmWa : (s1.map W8).length = 16 := by rw [List.length_map]; exact hs1l
        have rgWa := HRWWa.out.range0
        have rbWa := (HR58.out.only HOWWa.out (show g5 ≠ g7 by omega)).range0
        have clWa : Wa.cell? ⟨g6, 0, none⟩ = some (.int .i64 (last : Int)) := (HR68.out.only HOWWa.out (show g6 ≠ g7 by omega)).at_ rfl
        gi_wp2_with (first | ((with_reducible show wpListIn _ _ _ _ _ (⟨none, Op.store 50 _ _, _, _, _, _⟩ :: _) _ _); refine wpListIn_store_mid rfl 50 _ _ rfl g7 0 (s1.map W8).toArray rfl rfl thWa (Try.arrS.trans (by rw [List.size_toArray, lm2Wa])) (all_oneCell_toArray (ones8 s1)) ?_; (try rw [List.toList_toArray]); rw [eWa]) | ((with_reducible show wpListIn _ _ _ _ _ (⟨some 42, _, _, _, _, _⟩ :: _) _ _); refine wpListIn_load_mid rfl 50 _ rfl g7 0 rfl (s1.map W8) _ rgWa Try.underlying50 rfl (Try.arrS.trans (by rw [lmWa])) ?_))
        have hsx2 := (hsx.kept_only HOOWa.out hlow7)
        refine ⟨trivial, (CallsIn.inRound l (callsIn_wide.2 (add_any Wa s1 hs1l Wa.heap.size Ap 16 cp kb hsx2 (Nat.le_refl _) rfl))).mono ?_⟩
        rintro e U3 ⟨rfl, hbWc⟩
        obtain ⟨s3, hs3⟩ : ∃ l, addV s1 kb = l := ⟨_, rfl⟩
        have hs3l : s3.length = 16 := by rw [← hs3]; exact addV_length _ _
        rw [hs3]
        have HS3 := Lib.hid hs3
        have rUWc := HRWWa.out.later hbWc
        obtain ⟨Wc, eWc⟩ : ∃ V, U3.setCells g7 0 (s3.map W8) = V := ⟨_, rfl⟩
        have lm2Wc : (s3.map W8).length = 16 := by rw [List.length_map]; exact hs3l
        have thWc := rUWc.thereAll (s3.map W8).toArray.size (by rw [List.size_toArray, lm2Wc, lmWa])
        have HRWWc := Lib.hid (show RowV 50 Wc g7 (s3.map W8) by rw [← eWc]; exact rUWc.setAll _ (by rw [lm2Wc, lmWa]))
        have HOWWc := Lib.hid (show OnlyV V8 Wc g7 by rw [← eWc]; exact OnlyV.sets _ _ _ (HOWWa.out.trans (OnlyV.of_below hbWc g7)))
        have HOOWc := Lib.hid (show OnlyV W Wc g7 by rw [← eWc]; exact OnlyV.sets _ _ _ (HOOWa.out.trans (OnlyV.of_below hbWc g7)))
        clear rUWc hbWc rgWa rbWa clWa
        clear hs3
        gi_wp2_with (first | ((with_reducible show wpListIn _ _ _ _ _ (⟨none, Op.store 50 _ _, _, _, _, _⟩ :: _) _ _); refine wpListIn_store_mid rfl 50 _ _ rfl g7 0 (s3.map W8).toArray rfl rfl thWc (Try.arrS.trans (by rw [List.size_toArray, lm2Wc])) (all_oneCell_toArray (ones8 s3)) ?_; (try rw [List.toList_toArray]); rw [eWc]))
        refine ⟨⟨HOOWc.out.size, fun k o hk hh _ => (HOOWc.out.block k (Array.getElem?_eq_some_iff.1 hh).1 (fun e => by injection e; omega)).trans hh⟩, KpE.only HOOWc.out HOW.out.size, HOWWc.out, ?_⟩
        rw [List.length_append, List.length_singleton, List.take_add_one, HPL.out, HKB.out, Option.toList_some, encL_snoc, Nat.zero_add, HLT.out, HST.out]
        have h := HRWWc.out
        rw [← HS3.out, ← HS1.out] at h
        unfold encR
        rw [if_pos (by have := HP0.out; omega), if_neg (by omega)]
        exact h
  case done =>
    rintro D ys W hD hys ⟨hO, hS⟩ hK
    have he : encL last 0 ((keysL key).take ys.length) bs = encA key bs := by
      rw [hys, List.take_of_length_le (by rw [keysL_length, HC.out]; exact Nat.le_refl _), ← HLA.out, ← HC.out]
      rfl
    rw [he] at hS
    have HS := Lib.hid hS
    have HO := Lib.hid hO
    have HD := Lib.hid hD
    clear he hS hO hys hD
    gi_wp2
    refine ⟨by simp, .inl ⟨_, _, rfl, run_takeDeferred hK, ?_⟩⟩
    have hgr := grownBy_putObj' W D (.deferred none)
    have hnc : ∀ r, some D = some r → ∃ o : Obj, W.heap[r]? = some o ∧ o.isCells = false := fun r e => by cases e; exact ⟨_, hK, rfl⟩
    refine ⟨.slice (some ⟨g7, 0, none⟩) 16 16, by simp [results, Try.f10, go_sem], g7, rfl, by rw [HZ.out]; omega, HS.out.kept hgr hnc, ?_⟩
    rw [HZ.out]
    have h8 := HB8.out.size
    rw [HZ.out] at h8
    have hzg : z ≤ g7 := by omega
    exact (HB8.out.trans (HO.out.below hzg h8)).grown hgr (by have := HO.out.size; omega) (fun r e => by cases e; have := HD.out; omega)
  case stop =>
    intro D c pre W _ _ h
    exact h.elim
end Go.Proofs.Ytabhdkjepbkooaa

/- aescore: the element of a block. -/
set_option linter.unusedVariables false
set_option linter.unusedSimpArgs false
namespace Go.Proofs.Ytabhdkjepbkooaa
open Go.RowKit

def padE (bs : List (BitVec 8)) : List (BitVec 8) := bs ++ List.replicate (16 - bs.length) 0
theorem padE_length (bs : List (BitVec 8)) (h : bs.length ≤ 16) : (padE bs).length = 16 := by simp [padE]; omega
theorem padE_get (bs : List (BitVec 8)) (i : Nat) (hi : i < 16) : (padE bs).getD i 0 = bs.getD i 0 := by
  unfold padE
  rw [List.getD_eq_getElem?_getD, List.getD_eq_getElem?_getD]
  by_cases h : i < bs.length
  · rw [List.getElem?_append_left h]
  · rw [List.getElem?_append_right (by omega), List.getElem?_replicate, if_pos (by omega), List.getElem?_eq_none (by omega)]
    rfl
def hiE (bs : List (BitVec 8)) : BitVec 64 := foldQ ((padE bs).take 8)
def loE (bs : List (BitVec 8)) : BitVec 64 := foldQ ((padE bs).drop 8)
theorem elV_halves (bs : List (BitVec 8)) (h : bs.length ≤ 16) : elV bs = hiE bs ++ loE bs := by
  have hl := padE_length bs h
  unfold elV hiE loE
  congr 2
  · refine List.ext_getElem (by simp; omega) fun i h1 h2 => ?_
    have hi : i < 8 := by simpa using h1
    simp only [List.getElem_map, List.getElem_range, List.getElem_take]
    rw [← padE_get bs i (by omega), List.getD_eq_getElem?_getD, List.getElem?_eq_getElem (by omega)]
    rfl
  · refine List.ext_getElem (by simp; omega) fun i h1 h2 => ?_
    have hi : i < 8 := by simpa using h1
    simp only [List.getElem_map, List.getElem_range, List.getElem_drop]
    rw [← padE_get bs (8 + i) (by omega), List.getD_eq_getElem?_getD, List.getElem?_eq_getElem (by omega)]
    rfl
set_option maxRecDepth 100000 in
set_option maxHeartbeats 1600000 in
theorem toElement_any (w : World) (B b off n c : Nat) (bs : List (BitVec 8)) (hs : SlV w B (some ⟨b, off, none⟩) n c (bs.map W8)) (hB : B ≤ w.heap.size) (hn0 : 0 < n) (hn : n ≤ 16) :
    Calls Try.prog 35 #[.slice (some ⟨b, off, none⟩) n c] w fun e w' => e = .returned (EV (hiE bs) (loE bs)) ∧ Below w.heap.size w w' := by
  have hbl : bs.length = n := by have := hs.len; simpa using this.symm
  obtain ⟨W1, e1, r1, b1, z1⟩ := newE0 w
  obtain ⟨W2, e2, r2, b2, z2⟩ := newV W1 49 ((List.replicate 16 (0 : BitVec 8)).map W8) #[.int .u8 0, .int .u8 0, .int .u8 0, .int .u8 0, .int .u8 0, .int .u8 0, .int .u8 0, .int .u8 0, .int .u8 0, .int .u8 0, .int .u8 0, .int .u8 0, .int .u8 0, .int .u8 0, .int .u8 0, .int .u8 0] rfl
  obtain ⟨g, hg⟩ : ∃ g, w.heap.size = g := ⟨_, rfl⟩
  have b02 : Below g w W2 := by rw [← hg]; exact b1.trans (b2.mono b1.size)
  have r1 := r1.later b2
  obtain ⟨g2, hg2⟩ : ∃ x, W1.heap.size = x := ⟨_, rfl⟩
  rw [hg] at r1 hB
  rw [hg2] at r2
  have l2 : g < g2 := by omega
  have hs2 := hs.below (b02.mono hB)
  have hbm : (bs.map W8).length = n := by rw [List.length_map]; exact hbl
  obtain ⟨V, hV⟩ : ∃ V, W2.setCells g2 0 (bs.map W8) = V := ⟨_, rfl⟩
  have hcp : ∀ ty, (Builtin.copy_ #[22, 22] ty #[.slice (some ⟨g2, 0, none⟩) 16 16, .slice (some ⟨b, off, none⟩) n c]).run Try.prog W2 = .ok (goInt n) V := fun ty => by
    obtain ⟨i0, hi, hz0, hz1, hz2⟩ := info_parts Try.elem8.info
    have h := run_copy_cells W2 22 22 ty 5 g2 0 16 16 ⟨b, off, none⟩ n c (bs.map W8) Try.underlying22 (by rw [hi]; simp [hz1]) (by rw [hbm]; exact (Nat.min_eq_left hn).symm) (fun j v hv => ?_) (fun j hj => ?_) (fun j hj => r2.frozen _) (ones8 bs)
    · rw [hV, hbm] at h; exact h
    · obtain ⟨b', off', e, _, hc⟩ := hs2.2.2.2 (by intro e; rw [e] at hv; simp at hv)
      injection e with e
      injection e with e1 e2
      subst e1 e2
      rw [Addr.add_lit]
      exact hc j v hv
    · rw [hbm] at hj
      rw [r2.cell, List.getElem?_map, List.getElem?_replicate, if_pos (by omega)]; rfl
  have r3 : RowV 49 V g2 ((padE bs).map W8) := by
    have h := r2.setMany (bs.map W8) 0 W2 _ (by rw [hbm]; simp; omega)
    rw [hV] at h
    have e : ((List.replicate 16 (0 : BitVec 8)).map W8).take 0 ++ (bs.map W8 ++ ((List.replicate 16 (0 : BitVec 8)).map W8).drop (0 + (bs.map W8).length)) = (padE bs).map W8 := by
      rw [List.take_zero, List.nil_append, Nat.zero_add, hbm, ← List.map_drop, ← List.map_append, List.drop_replicate, padE, hbl]
    rwa [e] at h
  have b03 : Below g w V := by rw [← hV]; exact below_setMany (by omega) _ 0 w W2 b02
  have r1V : RowV 61 V g [W64 0, W64 0] := by rw [← hV]; exact (r1.below (below_setMany (Nat.le_refl g2) (bs.map W8) 0 W2 W2 (Below.refl _ _)) l2)
  have hpl := padE_length bs (by omega)
  obtain ⟨pe, hpe⟩ : ∃ l, padE bs = l := ⟨_, rfl⟩
  rw [hpe] at r3 hpl
  obtain ⟨x, hx⟩ : ∃ x, foldQ (pe.take 8) = x := ⟨_, rfl⟩
  obtain ⟨y, hy⟩ : ∃ x, foldQ (pe.drop 8) = x := ⟨_, rfl⟩
  have HE := Lib.hid (show hiE bs = x ∧ loE bs = y from ⟨by unfold hiE; rw [hpe, hx], by unfold loE; rw [hpe, hy]⟩)
  have hsl := r3.sl (by rw [List.length_map, hpl]; decide)
  rw [List.length_map, hpl] at hsl
  have h1 := hsl.take (k := 8) (by decide)
  have h2 := hsl.drop (k := 8) (by decide)
  rw [← List.map_take] at h1
  rw [← List.map_drop, Nat.zero_add] at h2
  have k1 : Calls Try.prog 44 #[.slice (some ⟨g2, 0, none⟩) 8 16] V.drew fun e w' => e = .returned (W64 x) ∧ w' = V.drew := (hx ▸ word_any V.drew _ g2 0 8 16 (pe.take 8) h1 rfl).mono fun _ _ ⟨a, b⟩ => ⟨a, b.symm⟩
  have k2 : Calls Try.prog 44 #[.slice (some ⟨g2, 8, none⟩) 8 8] V.drew fun e w' => e = .returned (W64 y) ∧ w' = V.drew := (hy ▸ word_any V.drew _ g2 8 8 8 (pe.drop 8) h2 rfl).mono fun _ _ ⟨a, b⟩ => ⟨a, b.symm⟩
  have HB := Lib.hid b03
  have HG := Lib.hid hg
  have hg2g : g ≤ g := Nat.le_refl g
  have r1D : RowV 61 V.drew g [W64 0, W64 0] := r1V
  have K1 := Lib.hid k1
  have K2 := Lib.hid k2
  obtain ⟨VD, hVD⟩ : ∃ X, V.drew = X := ⟨_, rfl⟩
  rw [hVD] at r1D K1 K2
  have HBD := Lib.hid (show Below g w VD by rw [← hVD]; exact below_drewN b03 1)
  have HVD := Lib.hid hVD
  clear b1 b2 z1 z2 b02 r1 r2 r3 r1V b03 hs hs2 hx hy h1 h2 hsl hV k1 k2 hpe hVD
  go_enter Try.func35, Try.ntmps35
  go_wp2
  refine wp_region_still_tail 5 (by kernel_rfl) (by kernel_rfl) ?_
  simp only [List.take_succ_cons, List.take_zero, List.drop_succ_cons, List.drop_zero]
  show wpStill _ _ (World.drew _) (fun a' => wpList _ _ _ _ a' (World.drew _)) _ _
  rw [HVD.out]
  refine wpStill_step (fun K hK => ?_); go_simp; refine hK _ ?_; clear hK K
  refine wpStill_step (fun K hK => ?_); go_simp; refine ⟨_, K1.out, hK _ ?_⟩; clear hK K
  refine wpStill_step (fun K hK => ?_); go_simp; refine hK _ ?_; clear hK K
  refine wpStill_step (fun K hK => ?_); go_simp; refine ⟨_, K2.out, hK _ ?_⟩; clear hK K
  refine wpStill_step (fun K hK => ?_); go_simp; refine hK _ ?_; clear hK K
  refine wpStill_nil ?_
  go_wp2_with ((with_reducible show wpList _ _ _ (⟨none, _, _, _, _, _⟩ :: _) _ _); refine wlv_store rfl 61 2 Try.sizeE _ _ rfl g [W64 x, W64 y] rfl rfl _ _ r1D rfl rfl (by intro v hv; simp at hv; rcases hv with rfl | rfl <;> rfl) ?_; intro w2 hr2 hb2 hz2)
  refine ⟨rfl, _, results_elem rfl _ g _ _ rfl hr2, by rw [HE.out.1, HE.out.2], ?_⟩
  rw [HG.out]
  exact hb2 _ _ HBD.out hg2g
end Go.Proofs.Ytabhdkjepbkooaa

/- aescore: products of elements. -/
set_option linter.unusedVariables false
set_option linter.unusedSimpArgs false
namespace Go.Proofs.Ytabhdkjepbkooaa
open Go.RowKit

theorem onesE (a b : BitVec 64) : Ones [W64 a, W64 b] := by
  intro v hv
  simp at hv
  rcases hv with rfl | rfl <;> rfl
theorem run_index2 (w : World) (a b : BitVec 64) (k : Nat) (x : BitVec 64) (hk : [a, b][k]? = some x) : (Instr.index 72 (.agg #[W64 a, W64 b]) (.int .i64 (k : Int))).run Try.prog w = .ok (W64 x) w := by
  have hkn : k < 2 := (List.getElem?_eq_some_iff.1 hk).1
  have h2 : k = 0 ∨ k = 1 := by omega
  rcases h2 with rfl | rfl <;> (simp at hk; subst hk; simp [Instr.index, run_underlying Try.underlying72, asIntOf, part, go_sem])
/-- how far the product has come: n terms -/
def TmI (E F : BitVec 128) (n : Nat) (g3 g4 g5 : Nat) (wr : World) : Prop :=
  ∃ zh zl fh fl : BitVec 64, RowV 61 wr g5 [W64 zh, W64 zl] ∧ RowV 61 wr g3 [W64 fh, W64 fl] ∧ RowV 61 wr g4 [W64 0, W64 0] ∧ zh ++ zl = partV E F n ∧ fh ++ fl = raiseN n F
theorem app_xor (a b c d : BitVec 64) : (a ^^^ c) ++ (b ^^^ d) = (a ++ b) ^^^ (c ++ d) := by
  apply BitVec.eq_of_getLsbD_eq
  intro i hi
  rw [BitVec.getLsbD_xor, BitVec.getLsbD_append, BitVec.getLsbD_append, BitVec.getLsbD_append]
  split <;> rw [BitVec.getLsbD_xor]
theorem msb_half (eh el : BitVec 64) (m k : Nat) (x : BitVec 64) (hx : [eh, el][m]? = some x) (hk : k < 64) : (eh ++ el).getMsbD (64 * m + k) = x.getMsbD k := by
  have hm : m = 0 ∨ m = 1 := by have := (List.getElem?_eq_some_iff.1 hx).1; simp at this; omega
  rcases hm with rfl | rfl
  · simp at hx; subst hx
    rw [BitVec.getMsbD_eq_getLsbD, BitVec.getMsbD_eq_getLsbD, BitVec.getLsbD_append, if_neg (by omega), decide_eq_true (by omega), decide_eq_true hk]
    simp only [Bool.true_and]
    congr 1; omega
  · simp at hx; subst hx
    rw [BitVec.getMsbD_eq_getLsbD, BitVec.getMsbD_eq_getLsbD, BitVec.getLsbD_append, if_pos (by omega), decide_eq_true (by omega), decide_eq_true hk]
    simp only [Bool.true_and]
    congr 1; omega
set_option maxRecDepth 100000 in
set_option maxHeartbeats 4000000 in
theorem etimes_any (w : World) (eh el fh0 fl0 : BitVec 64) : Calls Try.prog 36 #[EV eh el, EV fh0 fl0] w fun e w' => ∃ zh zl, e = .returned (EV zh zl) ∧ zh ++ zl = timesV (eh ++ el) (fh0 ++ fl0) ∧ Below w.heap.size w w' := by
  obtain ⟨W1, e1, r1, b1, z1⟩ := newE w eh el
  obtain ⟨W2, e2, r2, b2, z2⟩ := newE W1 fh0 fl0
  obtain ⟨W3, e3, r3, b3, z3⟩ := newE0 W2
  obtain ⟨W4, e4, r4, b4, z4⟩ := newE0 W3
  obtain ⟨g, hg⟩ : ∃ g, w.heap.size = g := ⟨_, rfl⟩
  have hB : Below g w W4 := by
    rw [← hg]
    exact b1.trans ((b2.mono b1.size).trans ((b3.mono (Nat.le_trans b1.size b2.size)).trans (b4.mono (Nat.le_trans b1.size (Nat.le_trans b2.size b3.size)))))
  have r1 := ((r1.later b2).later b3).later b4
  have r2 := (r2.later b3).later b4
  have r3 := r3.later b4
  obtain ⟨g3, hg3⟩ : ∃ x, W1.heap.size = x := ⟨_, rfl⟩
  obtain ⟨g4, hg4⟩ : ∃ x, W2.heap.size = x := ⟨_, rfl⟩
  obtain ⟨g5, hg5⟩ : ∃ x, W3.heap.size = x := ⟨_, rfl⟩
  rw [hg] at r1
  rw [hg3] at r2
  rw [hg4] at r3
  rw [hg5] at r4
  have l1 : g ≤ g3 ∧ g3 < g4 ∧ g4 < g5 := by omega
  have c10 := r1.at_ (i := 0) (v := W64 eh) rfl
  have c11 := r1.at_ (i := 1) (v := W64 el) rfl
  have HG := Lib.hid hg
  have h0 : TmI (eh ++ el) (fh0 ++ fl0) 0 g3 g4 g5 W4 := ⟨0, 0, fh0, fl0, r4, r2, r3, by rw [partV_zero]; rfl, rfl⟩
  have H0 := Lib.hid h0
  obtain ⟨E, hE⟩ : ∃ E : BitVec 128, @Eq (BitVec 128) (eh ++ el) E := ⟨_, rfl⟩
  obtain ⟨F, hF⟩ : ∃ F : BitVec 128, @Eq (BitVec 128) (fh0 ++ fl0) F := ⟨_, rfl⟩
  rw [hE, hF] at H0
  have HE := Lib.hid hE
  have HF := Lib.hid hF
  clear b1 b2 b3 b4 z1 z2 z3 z4 r1 r2 r3 r4 h0 hE hF
  go_enter Try.func36, Try.ntmps36
  go_wp2
  clear e1 e2 e3 e4 hg hg3 hg4 hg5 c10 c11
  go_loopw [14] (fun i wr => ∃ m : Nat, m ≤ 2 ∧ i = .int .i64 (m : Nat) ∧ Hid (TmI E F (64 * m) g3 g4 g5 wr) ∧ Below g w wr) (fun i _ => 2 - (intOf i).toNat)
  case atStart => exact ⟨0, by decide, rfl, H0, hB⟩
  case round =>
    obtain ⟨m, hm, rfl, HT, hBr⟩ := hrel
    obtain ⟨wo, rfl⟩ : ∃ V, V = wr := ⟨_, rfl⟩
    by_cases hm2 : m = 2
    · subst hm2
      obtain ⟨zh, zl, fh, fl, hz, _, hr, hze, _⟩ := HT.out
      have HZE := Lib.hid hze
      clear hze HT
      go_wp2_with (first | ((with_reducible show wpList _ _ _ (⟨some 32, _, _, _, _, _⟩ :: _) _ _); refine wpList_load_mid rfl 61 _ rfl g5 0 rfl [W64 zh, W64 zl] _ hz.range0 Try.underlying61 rfl Try.sizeE ?_) | ((with_reducible show wpList _ _ _ (⟨none, _, _, _, _, _⟩ :: _) _ _); refine wlv_store rfl 61 2 Try.sizeE _ _ rfl g4 [W64 zh, W64 zl] rfl rfl _ _ hr rfl rfl (onesE zh zl) ?_; intro w2 hr2 hb2 hz2))
      refine ⟨rfl, _, results_elem rfl _ g4 _ _ rfl hr2, zh, zl, rfl, ?_, ?_⟩
      · rw [HZE.out, HE.out, HF.out]; exact partV_all E F
      · rw [HG.out]; exact hb2 _ _ hBr (by omega)
    · have hmi : (m : Int) < 2 := by omega
      obtain ⟨wv, hwv⟩ : ∃ x, [eh, el][m]? = some x := ⟨_, List.getElem?_eq_getElem (show m < [eh, el].length by simp; omega)⟩
      have hix := run_index2 wo eh el m wv hwv
      have HWV := Lib.hid hwv
      clear hwv
      go_wp2
      go_loopw [17] (fun i wr => ∃ k : Nat, k ≤ 64 ∧ i = .int .i64 (k : Nat) ∧ Hid (TmI E F (64 * m + k) g3 g4 g5 wr) ∧ Below g w wr) (fun i _ => 64 - (intOf i).toNat)
      case atStart => exact ⟨0, by decide, rfl, HT, hBr⟩
      case round =>
        obtain ⟨k, hk, rfl, HT2, hBr2⟩ := hrel
        by_cases hk8 : k = 64
        · subst hk8
          go_wp2
          go_roundw
          case rel => exact ⟨m + 1, by omega, by go_num, HT2, hBr2⟩
          case measure => simp [intOf]; omega
        · have hki : (k : Int) < 64 := by omega
          have hkn : k < 64 := by omega
          obtain ⟨zh, zl, fh, fl, hz, hf, hr, hze, hfe⟩ := HT2.out
          have hbit : E.getMsbD (64 * m + k) = wv.getMsbD k := by rw [← HE.out]; exact msb_half eh el m k wv HWV.out hkn
          have hps := partV_succ E F (64 * m + k)
          rw [hbit, ← hze, ← hfe] at hps
          have htb := top_bit wv k hkn
          obtain ⟨s1, hs1⟩ : ∃ x, wv <<< k = x := ⟨_, rfl⟩
          have v1 : IntKind.u64.wrap (i64 wv * 2 ^ k) = i64 s1 := by rw [← hs1]; exact b64_shl wv k
          have v2 : i64 s1 / 9223372036854775808 = i64 (s1 >>> 63) := b64_shr s1 63
          rw [hs1] at htb
          have HRF := Lib.hid hf
          have HRR := Lib.hid hr
          have HFE := Lib.hid hfe
          by_cases hb : wv.getMsbD k = true
          · rw [if_pos hb] at htb hps
            rw [htb, show i64 (1 : BitVec 64) = 1 from rfl] at v2
            rw [← app_xor] at hps
            have rz := hz.range0
            have rf := hf.range0
            have HPS := Lib.hid hps
            have HZZ := Lib.hid hz
            have HBW2 := Lib.hid hBr2
            clear hps htb hbit hs1 hb hze hfe hz hf hr hBr2 HT2 HT hBr hix
            go_wp2_with (first | ((with_reducible show wpList _ _ _ (⟨some 25, _, _, _, _, _⟩ :: _) _ _); refine wpList_load_mid rfl 61 _ rfl g5 0 rfl [W64 zh, W64 zl] _ rz Try.underlying61 rfl Try.sizeE ?_) | ((with_reducible show wpList _ _ _ (⟨some 26, _, _, _, _, _⟩ :: _) _ _); refine wpList_load_mid rfl 61 _ rfl g3 0 rfl [W64 fh, W64 fl] _ rf Try.underlying61 rfl Try.sizeE ?_))
            refine (plus_any wr zh zl fh fl).mono ?_
            rintro e U1 ⟨rfl, hb1⟩
            obtain ⟨zh', hzh⟩ : ∃ x, zh ^^^ fh = x := ⟨_, rfl⟩
            obtain ⟨zl', hzl⟩ : ∃ x, zl ^^^ fl = x := ⟨_, rfl⟩
            rw [hzh, hzl] at HPS
            rw [hzh, hzl]
            obtain ⟨V1, eV1⟩ : ∃ V, U1.setCells g5 0 [W64 zh', W64 zl'] = V := ⟨_, rfl⟩
            have hrz1 := HZZ.out.later hb1
            have th1 := hrz1.thereAll 2 rfl
            have HO1 := Lib.hid (show OnlyV U1 V1 g5 by rw [← eV1]; exact OnlyV.sets _ _ _ (OnlyV.refl _ _))
            have HRZ := Lib.hid (show RowV 61 V1 g5 [W64 zh', W64 zl'] by rw [← eV1]; exact hrz1.setAll _ rfl)
            have HRF := Lib.hid ((HRF.out.later hb1).only HO1.out (show g3 ≠ g5 by omega))
            have HRR := Lib.hid ((HRR.out.later hb1).only HO1.out (show g4 ≠ g5 by omega))
            have hgz0 : g ≤ wr.heap.size := by have h1 := HBW2.out.size; have h2 := HG.out; omega
            have HBW := Lib.hid (show Below g w V1 by rw [← eV1]; exact below_setMany (by omega) _ 0 w U1 (HBW2.out.trans (hb1.mono hgz0)))
            have rf2 := HRF.out.range0
            have HPN := Lib.hid (show @Eq (BitVec 128) (zh' ++ zl') (partV E F (64 * m + k + 1)) from HPS.out.symm)
            clear hzh hzl hrz1 hb1 rz rf
            go_wp2_with (first | ((with_reducible show wpList _ _ _ (⟨none, _, _, _, _, _⟩ :: _) _ _); refine wpList_store_mid rfl 61 _ _ rfl g5 0 [W64 zh', W64 zl'].toArray rfl rfl th1 Try.sizeE (all_oneCell_toArray (onesE zh' zl')) ?_; (try rw [List.toList_toArray]); rw [eV1]) | ((with_reducible show wpList _ _ _ (⟨some 28, _, _, _, _, _⟩ :: _) _ _); refine wpList_load_mid rfl 61 _ rfl g3 0 rfl [W64 fh, W64 fl] _ rf2 Try.underlying61 rfl Try.sizeE ?_))
            refine (raise_any V1 fh fl).mono ?_
            rintro e U2 ⟨rfl, hb2⟩
            obtain ⟨fh', hfh⟩ : ∃ x, fh >>> 1 ^^^ ((fl &&& 1) * 0xe1) <<< 56 = x := ⟨_, rfl⟩
            obtain ⟨fl', hfl⟩ : ∃ x, fh <<< 63 ||| fl >>> 1 = x := ⟨_, rfl⟩
            have hre : @Eq (BitVec 128) (fh' ++ fl') (raiseN (64 * m + k + 1) F) := by
              rw [raiseN, ← HFE.out, raise_halves, hfh, hfl]
            rw [hfh, hfl]
            have HRE := Lib.hid hre
            obtain ⟨V2, eV2⟩ : ∃ V, U2.setCells g3 0 [W64 fh', W64 fl'] = V := ⟨_, rfl⟩
            have hrf3 := HRF.out.later hb2
            have th3 := hrf3.thereAll 2 rfl
            have hrz3 := HRZ.out.later hb2
            have hrr3 := HRR.out.later hb2
            have HO3 := Lib.hid (show OnlyV U2 V2 g3 by rw [← eV2]; exact OnlyV.sets _ _ _ (OnlyV.refl _ _))
            have HF3 := Lib.hid (show RowV 61 V2 g3 [W64 fh', W64 fl'] by rw [← eV2]; exact hrf3.setAll _ rfl)
            have HZ3 := Lib.hid (hrz3.only HO3.out (show g5 ≠ g3 by omega))
            have HR3 := Lib.hid (hrr3.only HO3.out (show g4 ≠ g3 by omega))
            have hgz : g ≤ V1.heap.size := by have h1 := HBW.out.size; have h2 := HG.out; omega
            have HB3 := Lib.hid (show Below g w V2 by rw [← eV2]; exact below_setMany (by omega) _ 0 w U2 (HBW.out.trans (hb2.mono hgz)))
            clear hfh hfl hre hrf3 hrz3 hrr3 hb2
            go_wp2_with ((with_reducible show wpList _ _ _ (⟨none, _, _, _, _, _⟩ :: _) _ _); refine wpList_store_mid rfl 61 _ _ rfl g3 0 [W64 fh', W64 fl'].toArray rfl rfl th3 Try.sizeE (all_oneCell_toArray (onesE fh' fl')) ?_; (try rw [List.toList_toArray]); rw [eV2])
            go_roundw
            case rel => exact ⟨k + 1, by omega, by go_num, Lib.hid ⟨_, _, fh', fl', HZ3.out, HF3.out, HR3.out, HPN.out, HRE.out⟩, HB3.out⟩
            case measure => simp [intOf]; omega
          · rw [if_neg hb] at htb hps
            rw [htb, show i64 (0 : BitVec 64) = 0 from rfl] at v2
            have rf := hf.range0
            have HPN := Lib.hid (show @Eq (BitVec 128) (zh ++ zl) (partV E F (64 * m + k + 1)) from hps.symm)
            have HRZ := Lib.hid hz
            have HBW := Lib.hid hBr2
            clear hps htb hbit hs1 hb hze hfe hz hf hr hBr2 HT2 HT hBr hix
            go_wp2_with ((with_reducible show wpList _ _ _ (⟨some 28, _, _, _, _, _⟩ :: _) _ _); refine wpList_load_mid rfl 61 _ rfl g3 0 rfl [W64 fh, W64 fl] _ rf Try.underlying61 rfl Try.sizeE ?_)
            refine (raise_any wr fh fl).mono ?_
            rintro e U2 ⟨rfl, hb2⟩
            obtain ⟨fh', hfh⟩ : ∃ x, fh >>> 1 ^^^ ((fl &&& 1) * 0xe1) <<< 56 = x := ⟨_, rfl⟩
            obtain ⟨fl', hfl⟩ : ∃ x, fh <<< 63 ||| fl >>> 1 = x := ⟨_, rfl⟩
            have hre : @Eq (BitVec 128) (fh' ++ fl') (raiseN (64 * m + k + 1) F) := by
              rw [raiseN, ← HFE.out, raise_halves, hfh, hfl]
            rw [hfh, hfl]
            have HRE := Lib.hid hre
            obtain ⟨V2, eV2⟩ : ∃ V, U2.setCells g3 0 [W64 fh', W64 fl'] = V := ⟨_, rfl⟩
            have hrf3 := HRF.out.later hb2
            have th3 := hrf3.thereAll 2 rfl
            have hrz3 := HRZ.out.later hb2
            have hrr3 := HRR.out.later hb2
            have HO3 := Lib.hid (show OnlyV U2 V2 g3 by rw [← eV2]; exact OnlyV.sets _ _ _ (OnlyV.refl _ _))
            have HF3 := Lib.hid (show RowV 61 V2 g3 [W64 fh', W64 fl'] by rw [← eV2]; exact hrf3.setAll _ rfl)
            have HZ3 := Lib.hid (hrz3.only HO3.out (show g5 ≠ g3 by omega))
            have HR3 := Lib.hid (hrr3.only HO3.out (show g4 ≠ g3 by omega))
            have hgz : g ≤ wr.heap.size := by have h1 := HBW.out.size; have h2 := HG.out; omega
            have HB3 := Lib.hid (show Below g w V2 by rw [← eV2]; exact below_setMany (by omega) _ 0 w U2 (HBW.out.trans (hb2.mono hgz)))
            clear hfh hfl hre hrf3 hrz3 hrr3 hb2
            go_wp2_with ((with_reducible show wpList _ _ _ (⟨none, _, _, _, _, _⟩ :: _) _ _); refine wpList_store_mid rfl 61 _ _ rfl g3 0 [W64 fh', W64 fl'].toArray rfl rfl th3 Try.sizeE (all_oneCell_toArray (onesE fh' fl')) ?_; (try rw [List.toList_toArray]); rw [eV2])
            go_roundw
            case rel => exact ⟨k + 1, by omega, by go_num, Lib.hid ⟨_, _, fh', fl', HZ3.out, HF3.out, HR3.out, HPN.out, HRE.out⟩, HB3.out⟩
            case measure => simp [intOf]; omega
end Go.Proofs.Ytabhdkjepbkooaa

/- aescore: Times. -/
set_option linter.unusedVariables false
set_option linter.unusedSimpArgs false
namespace Go.Proofs.Ytabhdkjepbkooaa
open Go.RowKit

set_option maxRecDepth 100000 in
set_option maxHeartbeats 1600000 in
theorem times_any (w : World) (B b1 o1 c1 b2 o2 c2 : Nat) (x y : List (BitVec 8)) (hx : SlV w B (some ⟨b1, o1, none⟩) 16 c1 (x.map W8)) (hy : SlV w B (some ⟨b2, o2, none⟩) 16 c2 (y.map W8)) (hB : B ≤ w.heap.size) :
    Calls Try.prog 15 #[.slice (some ⟨b1, o1, none⟩) 16 c1, .slice (some ⟨b2, o2, none⟩) 16 c2] w fun e w' => ∃ g, e = .returned (.slice (some ⟨g, 0, none⟩) 16 16) ∧ w.heap.size ≤ g ∧ RowV 5 w' g ((byV (timesV (elV x) (elV y))).map W8) ∧ Below w.heap.size w w' := by
  have hxl : x.length = 16 := by have := hx.len; simp at this; omega
  have hyl : y.length = 16 := by have := hy.len; simp at this; omega
  have HX := Lib.hid hx
  have HY := Lib.hid hy
  clear hx hy
  go_enter Try.func15, Try.ntmps15
  go_wp2_with fail
  refine (toElement_any w B b1 o1 16 c1 x HX.out hB (by decide) (by decide)).mono ?_
  rintro e W1 ⟨rfl, h1⟩
  go_wp2_with fail
  refine (toElement_any W1 B b2 o2 16 c2 y (HY.out.below (h1.mono hB)) (Nat.le_trans hB h1.size) (by decide) (by decide)).mono ?_
  rintro e W2 ⟨rfl, h2⟩
  go_wp2_with fail
  refine (etimes_any W2 _ _ _ _).mono ?_
  rintro e W3 ⟨zh, zl, rfl, hz, h3⟩
  go_wp2_with fail
  refine (ebytes_any W3 zh zl).mono ?_
  rintro e W4 ⟨g, rfl, hg, hr, h4⟩
  have hB4 : Below w.heap.size w W4 := h1.trans ((h2.mono h1.size).trans ((h3.mono (Nat.le_trans h1.size h2.size)).trans (h4.mono (Nat.le_trans h1.size (Nat.le_trans h2.size h3.size)))))
  have hgw : w.heap.size ≤ g := Nat.le_trans h1.size (Nat.le_trans h2.size (Nat.le_trans h3.size hg))
  rw [hz, ← elV_halves x (by omega), ← elV_halves y (by omega)] at hr
  have HR := Lib.hid (And.intro hr (And.intro hB4 hgw))
  clear hr hB4 hgw h1 h2 h3 h4 hg hz
  go_wp2
  go_ret
  exact ⟨g, rfl, HR.out.2.2, HR.out.1, HR.out.2.1⟩
set_option maxHeartbeats 1600000 in
theorem times_no (w : World) (A1 : Option Addr) (n1 c1 : Nat) (A2 : Option Addr) (n2 c2 : Nat) (h : ¬ (n1 = 16 ∧ n2 = 16)) :
    Calls Try.prog 15 #[.slice A1 n1 c1, .slice A2 n2 c2] w fun e w' => e = .returned (.slice none 0 0) ∧ w = w' := by
  by_cases h1 : n1 = 16
  · have h2 : ¬ (n2 : Int) = 16 := fun e => h ⟨h1, by omega⟩
    subst h1
    clear h
    go_enter Try.func15, Try.ntmps15
    go_wp2
    go_ret
    exact ⟨rfl, rfl⟩
  · have h2 : ¬ (n1 : Int) = 16 := fun e => h1 (by omega)
    clear h h1
    go_enter Try.func15, Try.ntmps15
    go_wp2
    go_ret
    exact ⟨rfl, rfl⟩
end Go.Proofs.Ytabhdkjepbkooaa

/- slices.Chunk of bytes: what it hands out. -/
set_option linter.unusedVariables false
set_option linter.unusedSimpArgs false
namespace Go.Proofs.Ytabhdkjepbkooaa
open Go.RowKit
attribute [local go_sem] Oper.semAt_some

/-- what Chunk hands out: the i-th piece, in the slice's own memory -/
structure CkX where
  i : Nat
  A : Option Addr
  n : Nat
  c : Nat
abbrev encCk : CkX → Array Value := fun x => #[.slice x.A x.n x.c]
def pieceK (bs : List (BitVec 8)) (k i : Nat) : List (BitVec 8) := (bs.drop (k * i)).take k
def CkR (bs : List (BitVec 8)) (k b off : Nat) (pre : List CkX) (x : CkX) (_ : World) : Prop :=
  x.i = pre.length ∧ k * pre.length < bs.length ∧ x.A = some ⟨b, off + k * pre.length, none⟩ ∧ x.n = min k (bs.length - k * pre.length) ∧ x.c = x.n
theorem CkR.own (bs : List (BitVec 8)) (k b off B : Nat) (pre : List CkX) : OwnFrom B (CkR bs k b off pre) := fun _ _ _ _ hs _ _ => hs
set_option maxRecDepth 100000 in
set_option maxHeartbeats 1600000 in
theorem chunk_any (w : World) (v : Value) (k : Nat) (hk : 1 ≤ k) (A : Option Addr) (n c : Nat) (hv : v = .slice A n c) : Calls Try.prog 38 #[v, .int .i64 (k : Int)] w fun e w' =>
    ∃ g1 g2, e = .returned (.func (.func 46) #[] #[.pointer (some ⟨g1, 0, none⟩), .pointer (some ⟨g2, 0, none⟩)]) ∧ w.heap.size ≤ g1 ∧ w.heap.size ≤ g2 ∧ RowV 22 w' g1 [.slice A n c] ∧ RowV 3 w' g2 [.int .i64 (k : Int)] ∧ Below w.heap.size w w' := by
  subst hv
  obtain ⟨W1, e1, r1, b1, z1⟩ := newV w 22 [.slice A n c] #[.slice A n c] rfl
  obtain ⟨W2, e2, r2, b2, z2⟩ := newV W1 3 [.int .i64 (k : Int)] #[.int .i64 (k : Int)] rfl
  obtain ⟨g1, hg1⟩ : ∃ x, w.heap.size = x := ⟨_, rfl⟩
  have hb : Below g1 w W2 := by rw [← hg1]; exact b1.trans (b2.mono b1.size)
  have r1 := r1.later b2
  obtain ⟨g2, hg2⟩ : ∃ x, W1.heap.size = x := ⟨_, rfl⟩
  rw [hg1] at r1
  rw [hg2] at r2
  have l2 : g1 < g2 := by omega
  have c2 := r2.at_ (i := 0) (v := .int .i64 (k : Int)) rfl
  have hki : (1 : Int) ≤ k := by omega
  have HH := Lib.hid (And.intro r1 (And.intro r2 hb))
  have HG := Lib.hid hg1
  clear r1 r2 hb b1 b2 z1 z2
  go_enter Try.func38, Try.ntmps38
  go_wp2
  go_ret
  refine ⟨g1, g2, rfl, by rw [HG.out]; exact Nat.le_refl _, by rw [HG.out]; omega, HH.out.1, HH.out.2.1, ?_⟩
  rw [HG.out]; exact HH.out.2.2
end Go.Proofs.Ytabhdkjepbkooaa
