/- Parts of one proof, joined: WDIt, Tabs3. -/
import Derived.Test.YtnpaidieijlkkaaDoorPileI11
import Derived.Test.YtnpaidieijlkkaaDoorPileI14
import Derived.Test.YtnpaidieijlkkaaDoorPileI1
import Derived.Test.YtnpaidieijlkkaaDoorPileI3
import Derived.Lib.LaidTab
import Derived.Stop.LaidErr

/- DrbgIter, walked. -/
set_option linter.unusedVariables false
set_option linter.unusedSimpArgs false
set_option pp.deepTerms true
set_option pp.maxSteps 1000000
namespace Go.Proofs.YtnpaidieijlkkaaDoor
open Go.RowKit Go.Shelf
attribute [local go_sem] shutOp Oper.semAt_some

theorem R4E.later {B : Nat} {w w' : World} {g : Nat} {key val : List (BitVec 8)} {n : Int} (h : R4E B w g key val n) (hb : Below w.heap.size w w') : R4E B w' g key val n := by
  obtain ⟨Ak, Av, ck, cv, h1, h2, h3⟩ := h
  exact ⟨Ak, Av, ck, cv, h1.later hb, h2, h3⟩
theorem R4E.lt_ {B : Nat} {w : World} {g : Nat} {key val : List (BitVec 8)} {n : Int} (h : R4E B w g key val n) : g < w.heap.size := by
  obtain ⟨Ak, Av, ck, cv, h1, h2, h3⟩ := h
  exact h1.row.lt
theorem R4E.mono_ {B B' : Nat} {w : World} {g : Nat} {key val : List (BitVec 8)} {n : Int} (h : R4E B w g key val n) (hB : B' ≤ B) : R4E B' w g key val n := by
  obtain ⟨Ak, Av, ck, cv, h1, h2, h3⟩ := h
  exact ⟨Ak, Av, ck, cv, h1, fun b off s e => Nat.le_trans hB (h2 b off s e), fun b off s e => Nat.le_trans hB (h3 b off s e)⟩
/-- a block below B that is not the generator's may turn -/
theorem R4E.only_ {B : Nat} {w w' : World} {g q : Nat} {key val : List (BitVec 8)} {n : Int} (h : R4E B w g key val n) (ho : OnlyV w w' q) (hq : q < B) (hg : q ≠ g) : R4E B w' g key val n := by
  obtain ⟨Ak, Av, ck, cv, h1, h2, h3⟩ := h
  exact ⟨Ak, Av, ck, cv, h1.grown_ ho (fun e => hg (by injection e)) (fun b off s e e2 => by have := h2 b off s e; injection e2; omega) (fun b off s e e2 => by have := h3 b off s e; injection e2; omega), h2, h3⟩
theorem R4E.kept_ {B : Nat} {A B' : World} {g : Nat} {key val : List (BitVec 8)} {n : Int} (h : R4E B A g key val n) {row : Option Nat} (hg : A.grownBy B' row) (hr : ∀ r, row = some r → ∃ o : Obj, A.heap[r]? = some o ∧ o.isCells = false) : R4E B B' g key val n := by
  obtain ⟨Ak, Av, ck, cv, h1, h2, h3⟩ := h
  exact ⟨Ak, Av, ck, cv, ⟨h1.hk, h1.hv, h1.row.kept hg hr, (h1.ks.kept hg hr).more hg.size, (h1.vs.kept hg hr).more hg.size, h1.kg, h1.vg⟩, h2, h3⟩
theorem all_notNil2 (x : Nat) (w : World) : (binOp .neq 30 (.func (.func 39) #[] #[.pointer (some ⟨x, 0, none⟩)]) .nilFunc).run Tryd.prog w = .ok (.bool true) w := by kernel_rfl
/-- as R4E, and neither block is q -/
def R4Q (B q : Nat) (w : World) (g : Nat) (key val : List (BitVec 8)) (n : Int) : Prop := ∃ Ak Av ck cv, R4R w g key val n Ak Av ck cv ∧ (∀ b off s, Ak = some ⟨b, off, s⟩ → B ≤ b ∧ b ≠ q) ∧ ∀ b off s, Av = some ⟨b, off, s⟩ → B ≤ b ∧ b ≠ q
theorem R4Q.toE {B q : Nat} {w : World} {g : Nat} {key val : List (BitVec 8)} {n : Int} (h : R4Q B q w g key val n) : R4E B w g key val n := by
  obtain ⟨Ak, Av, ck, cv, h1, h2, h3⟩ := h
  exact ⟨Ak, Av, ck, cv, h1, fun b off s e => (h2 b off s e).1, fun b off s e => (h3 b off s e).1⟩
theorem R4Q.of_E {B q : Nat} {w : World} {g : Nat} {key val : List (BitVec 8)} {n : Int} (h : R4E B w g key val n) (hq : w.heap.size ≤ q) : R4Q B q w g key val n := by
  obtain ⟨Ak, Av, ck, cv, h1, h2, h3⟩ := h
  refine ⟨Ak, Av, ck, cv, h1, fun b off s e => ⟨h2 b off s e, ?_⟩, fun b off s e => ⟨h3 b off s e, ?_⟩⟩
  · obtain ⟨b', o', _, e', hlt, _⟩ := h1.ks.at_ (k := 0) (by decide)
    rw [e] at e'
    injection e' with e'
    injection e' with e1
    omega
  · obtain ⟨b', o', _, e', hlt, _⟩ := h1.vs.at_ (k := 0) (by decide)
    rw [e] at e'
    injection e' with e'
    injection e' with e1
    omega
theorem R4Q.of_new {B D q : Nat} {w : World} {g : Nat} {key val : List (BitVec 8)} {n : Int} (h : R4E D w g key val n) (hB : B ≤ D) (hq : q < D) : R4Q B q w g key val n := by
  obtain ⟨Ak, Av, ck, cv, h1, h2, h3⟩ := h
  exact ⟨Ak, Av, ck, cv, h1, fun b off s e => (by have := h2 b off s e; omega), fun b off s e => (by have := h3 b off s e; omega)⟩
theorem R4Q.only_ {B q p : Nat} {w w' : World} {g : Nat} {key val : List (BitVec 8)} {n : Int} (h : R4Q B q w g key val n) (ho : OnlyV w w' p) (hp : p < B ∨ p = q) (hg : p ≠ g) : R4Q B q w' g key val n := by
  obtain ⟨Ak, Av, ck, cv, h1, h2, h3⟩ := h
  exact ⟨Ak, Av, ck, cv, h1.grown_ ho (fun e => hg (by injection e)) (fun b off s e e2 => by have := h2 b off s e; injection e2; omega) (fun b off s e e2 => by have := h3 b off s e; injection e2; omega), h2, h3⟩
theorem R4Q.kept_ {B q : Nat} {A B' : World} {g : Nat} {key val : List (BitVec 8)} {n : Int} (h : R4Q B q A g key val n) {row : Option Nat} (hg : A.grownBy B' row) (hr : ∀ r, row = some r → ∃ o : Obj, A.heap[r]? = some o ∧ o.isCells = false) : R4Q B q B' g key val n := by
  obtain ⟨Ak, Av, ck, cv, h1, h2, h3⟩ := h
  exact ⟨Ak, Av, ck, cv, ⟨h1.hk, h1.hv, h1.row.kept hg hr, (h1.ks.kept hg hr).more hg.size, (h1.vs.kept hg hr).more hg.size, h1.kg, h1.vg⟩, h2, h3⟩
/-- ahead of a round -/
def DItI (w : World) (x3 x4 x7 x9 B gr : Nat) (k : Int) (key val pre : List (BitVec 8)) (W : World) : Prop :=
  Below x3 w W ∧ BxE x3 (.int .i64 k) W ∧ BxE x4 (.bool false) W ∧ BxE x7 (.pointer (some ⟨gr, 0, none⟩)) W ∧ BxE x9 (.int .i64 ((pre.length : Nat) : Int)) W ∧ R4Q B x9 W gr (stD key val pre.length).1 (stD key val pre.length).2 ((pre.length : Nat) : Int)
theorem DItI.own {w : World} {x3 x4 x7 x9 B gr : Nat} {k : Int} {key val : List (BitVec 8)} {S : Nat} (hS : x3 ≤ S) : OwnFrom S (DItI w x3 x4 x7 x9 B gr k key val) := by
  rintro s W W' row ⟨h2, h3, h4, h7, h9, hr⟩ hg hr'
  have hc := fun r e => (hr' r e).2
  exact ⟨h2.grown hg (by have := h3.2.2; omega) (fun r e => by have := (hr' r e).1; omega), h3.kept hg hc, h4.kept hg hc, h7.kept hg hc, h9.kept hg hc, hr.kept_ hg hc⟩
theorem DItI.onlyG {w : World} {x3 x4 x7 x9 B gr g : Nat} {k : Int} {key val pre : List (BitVec 8)} {W W' : World} (h : DItI w x3 x4 x7 x9 B gr k key val pre W) (hg : OnlyV W W' g) (h3g : x3 < g) (h4g : x4 < g) (hgB : g < B) (h7g : g < x7) (h9g : g < x9) (hgg : g ≠ gr) : DItI w x3 x4 x7 x9 B gr k key val pre W' := by
  obtain ⟨h2, h3, h4, h7, h9, hr⟩ := h
  exact ⟨h2.grown hg (by have := h3.2.2; omega) (fun r e => by injection e; omega), h3.grownG hg (by omega), h4.grownG hg (by omega), h7.grownG hg (by omega), h9.grownG hg (by omega), hr.only_ hg (.inl hgB) hgg⟩
set_option maxRecDepth 100000 in
set_option maxHeartbeats 4000000 in
theorem diter_walk (w : World) (hGS : StartsG w) (hGR : RootsG w) (A : Option Addr) (n c : Nat) (bs : List (BitVec 8)) (hs : SlV w w.heap.size A n c (bs.map W8)) (hz : A = none → c = 0) (k : Int) (hk1 : -9223372036854775808 ≤ k) (hk2 : k ≤ 9223372036854775807) :
    Calls Tryd.prog 3 #[.slice A n c, .int .i64 k] w fun e w' => e = .returned (.bool true) ∧ Below w.heap.size w w' := by
  obtain ⟨W1, e1, hB1, b3, s1⟩ := newBox w 3 (.int .i64 k)
  obtain ⟨W2, e2, hB2, b4, s2⟩ := newBox W1 4 (.bool false)
  obtain ⟨x3, hx3⟩ : ∃ b, w.heap.size = b := ⟨_, rfl⟩
  obtain ⟨x4, hx4⟩ : ∃ b, W1.heap.size = b := ⟨_, rfl⟩
  have hb1 : 4 < x3 := by have := hGR.1; omega
  rw [hx3] at b3 hs ⊢
  rw [hx4] at b4
  replace b3 := b3.later hB2
  have hB : Below x3 w W2 := by rw [← hx3]; exact hB1.trans (hB2.mono hB1.size)
  have hx34 : x4 = x3 + 1 := by omega
  have hx2 : W2.heap.size = x3 + 2 := by omega
  have hG2 : StartsG W2 ∧ RootsG W2 := ⟨(hGS.later hB1).later hB2, (hGR.later hB1).later hB2⟩
  have hbg := begun4_any W2 hG2.1 hG2.2
  have HBG := Lib.hid hbg
  have HG0 := Lib.hid (⟨hGS, hGR⟩ : StartsG w ∧ RootsG w)
  have HG2 := Lib.hid hG2
  have HX := Lib.hid (⟨hx34, hx2⟩ : x4 = x3 + 1 ∧ W2.heap.size = x3 + 2)
  have HX3 := Lib.hid hx3
  have HB := Lib.hid hB
  have HS := Lib.hid hs
  have B3 := Lib.hid b3
  have B4 := Lib.hid b4
  clear hbg hB1 hB2 s1 s2 hx34 hx2 hGS hGR hG2 hs hB b3 b4
  refine (callsIn_wide (n := 9)).1 ?_
  refine callsIn_of_wp_marks Tryd.func3 rfl trivial ?_ rfl
  simp only [Tryd.ntmps3, List.size_toArray, List.length_cons, List.length_nil, Nat.reduceAdd, Nat.reduceSub, Array.replicate_succ, Array.replicate_zero, List.push_toArray, List.append_toArray, List.nil_append, List.cons_append]
  gi_wp2_with fail
  refine ⟨trivial, (callsIn_wide.2 HBG.out).mono ?_⟩
  rintro e w5 ⟨rfl, hb5⟩
  clear e1 e2 hx3 hx4
  have hG5 : StartsG w5 ∧ RootsG w5 := ⟨HG2.out.1.later hb5, HG2.out.2.later hb5⟩
  have hbl5 : Below x3 w w5 := HB.out.trans (hb5.mono (by have := HX.out; omega))
  have h3 := B3.out.later hb5
  have h4 := B4.out.later hb5
  have hs5 := HS.out.below hbl5
  have hsh := short_any w5 _ _ _ _ _ hs5 60 (by decide)
  have hss := short_sl (m := 60) hs5
  obtain ⟨m, hm⟩ : ∃ x, min n 60 = x := ⟨_, rfl⟩
  obtain ⟨q, hq⟩ : ∃ x, bs.take 60 = x := ⟨_, rfl⟩
  rw [hm] at hsh hss
  rw [hq] at hss
  have hm60 : m ≤ 60 := by omega
  have hz5 : x3 + 2 ≤ w5.heap.size := by have := hb5.size; have := HX.out; omega
  have hn5 := dnew_any w5 hG5.1 hG5.2 x3 A m c q hss hz (by omega) (by omega)
  obtain ⟨kv, hkv⟩ : ∃ kv, updL (List.replicate 32 0, List.replicate 32 1) q = kv := ⟨_, rfl⟩
  rw [hkv] at hn5
  obtain ⟨g, hg⟩ : ∃ g, w5.heap.size = g := ⟨_, rfl⟩
  rw [hg] at hn5 hz5
  have HSH := Lib.hid hsh
  have HN5 := Lib.hid hn5
  have HSS := Lib.hid hss
  have HG5 := Lib.hid hG5
  have HKV := Lib.hid hkv
  have HGG := Lib.hid hg
  have HBL5 := Lib.hid hbl5
  have H3 := Lib.hid h3
  have H4 := Lib.hid h4
  clear hsh hn5 hss hG5 hkv hg hbl5 h3 h4 hs5 hb5 hm hq B3 B4 HBG
  gi_wp2_with fail
  refine ⟨trivial, (callsIn_wide.2 HSH.out).mono ?_⟩
  rintro e w' ⟨rfl, rfl⟩
  gi_wp2_with fail
  refine ⟨trivial, (callsIn_wide.2 HN5.out).mono ?_⟩
  rintro e w6 ⟨rfl, hd6, hb6⟩
  have hb6' : Below w5.heap.size w5 w6 := by rw [HGG.out]; exact hb6
  have hgl6 := hd6.row.lt
  have hrn := r4new_any w6 x3 A m c q (HSS.out.below (hb6.mono (by omega))) hz (by omega) (by omega)
  rw [HKV.out] at hrn
  have h3 := H3.out.later hb6'
  have h4 := H4.out.later hb6'
  have hG6 : StartsG w6 ∧ RootsG w6 := ⟨HG5.out.1.later hb6', HG5.out.2.later hb6'⟩
  have hbl6 : Below x3 w w6 := HBL5.out.trans (hb6.mono (by omega))
  have HRN := Lib.hid hrn
  have HD6 := Lib.hid hd6
  have HG6 := Lib.hid hG6
  have HBL6 := Lib.hid hbl6
  have H36 := Lib.hid h3
  have H46 := Lib.hid h4
  clear hrn hd6 hb6 hb6' h3 h4 hG6 hbl6 H3 H4 HG5 HN5 HSH
  gi_wp2_with fail
  refine ⟨trivial, (callsIn_wide.2 HRN.out).mono ?_⟩
  rintro e w7 ⟨gr, rfl, hgr, hr7, hb7⟩
  obtain ⟨W8', e8, hB8, b7, s8⟩ := newBox w7 27 (.pointer none)
  obtain ⟨x7, hx7⟩ : ∃ b, w7.heap.size = b := ⟨_, rfl⟩
  rw [hx7] at b7
  have q7 := b7.1
  have f7 := b7.2.1
  obtain ⟨W9, e9⟩ : ∃ V, W8'.setCell ⟨x7, 0, none⟩ (.pointer (some ⟨gr, 0, none⟩)) = V := ⟨_, rfl⟩
  have hb79 : Below w7.heap.size w7 W9 := by rw [← e9]; exact below_box hB8 (by omega) _
  have h7 : BxE x7 (.pointer (some ⟨gr, 0, none⟩)) W9 := by rw [← e9]; exact b7.set _
  have hr9 := hr7.later hb79
  have hz7 := hb7.size
  have hgr7 := hr7.lt_
  have hx7w : W9.heap.size = x7 + 1 := by rw [← e9]; simp [World.setCell]; omega
  have hb69 : Below w6.heap.size w6 W9 := hb7.trans (hb79.mono hz7)
  have hd9 := HD6.out.later hb69
  have h3 := H36.out.later hb69
  have h4 := H46.out.later hb69
  have hG9 : StartsG W9 ∧ RootsG W9 := ⟨HG6.out.1.later hb69, HG6.out.2.later hb69⟩
  have hbl9 : Below x3 w W9 := HBL6.out.trans (hb69.mono (by omega))
  have hal := dall_any W9 (some ⟨g, 0, none⟩)
  rw [hx7w] at hal
  have HAL := Lib.hid hal
  have HD9 := Lib.hid hd9
  have HR9 := Lib.hid hr9
  have HG9 := Lib.hid hG9
  have HBL9 := Lib.hid hbl9
  have H39 := Lib.hid h3
  have H49 := Lib.hid h4
  have H79 := Lib.hid h7
  have HXW := Lib.hid (⟨hx7w, hz5, hgl6, hgr, hgr7, hz7⟩ : W9.heap.size = x7 + 1 ∧ x3 + 2 ≤ g ∧ g < w6.heap.size ∧ w6.heap.size ≤ gr ∧ gr < w7.heap.size ∧ w6.heap.size ≤ w7.heap.size)
  have HX7 := Lib.hid hx7
  clear hal hd9 hr9 hG9 hbl9 h3 h4 h7 hb69 hb79 hb7 hr7 hB8 b7 s8 HRN HD6 HG6 H36 H46
  gi_wp2_with fail
  refine ⟨trivial, (callsIn_wide.2 HAL.out).mono ?_⟩
  rintro e w10 ⟨rfl, hbx, hb10⟩
  clear e8 e9 HAL q7 f7
  have hxw := HXW.out
  have hb10' : Below W9.heap.size W9 w10 := hb10.mono (by omega)
  have h3 := H39.out.later hb10'
  have h4 := H49.out.later hb10'
  have h7 := H79.out.later hb10'
  have hd := HD9.out.later hb10'
  have hr := HR9.out.later hb10'
  have hG : StartsG w10 ∧ RootsG w10 := ⟨HG9.out.1.later hb10', HG9.out.2.later hb10'⟩
  have hbl : Below x3 w w10 := HBL9.out.trans (hb10'.mono (by omega))
  have hz10 := hbx.2.2
  have hnf := all_notNil' (x7 + 1)
  have hnf2 := all_notNil2 (x7 + 1)
  have q3 := h3.1
  have q4 := h4.1
  have f4 := h4.2.1
  have HD := Lib.hid hd
  have HR := Lib.hid hr
  have HGL := Lib.hid hG
  have HBL := Lib.hid hbl
  have HH3 := Lib.hid h3
  have HH4 := Lib.hid h4
  have HH7 := Lib.hid h7
  have HBX := Lib.hid hbx
  have HB10 := Lib.hid hb10'
  clear hd hr hG hbl h3 h4 h7 hbx hb10 hb10' hxw HD9 HR9 HG9 HBL9 H39 H49 H79
  by_cases hk : 1 ≤ k ∧ k ≤ 20
  · have hk1' : ¬ k < 1 := by omega
    have hk9' : ¬ 20 < k := by omega
    obtain ⟨W11', e11, hB11, b9, s11⟩ := newBox w10 3 (.int .i64 0)
    obtain ⟨x9, hx9⟩ : ∃ b, w10.heap.size = b := ⟨_, rfl⟩
    rw [hx9] at b9
    have q9 := b9.1
    have f9 := b9.2.1
    obtain ⟨W11, e12⟩ : ∃ V, W11'.setCell ⟨x9, 0, none⟩ (.int .i64 0) = V := ⟨_, rfl⟩
    have hb11 : Below w10.heap.size w10 W11 := by rw [← e12]; exact below_box hB11 (by omega) _
    have h9 : BxE x9 (.int .i64 ((0 : Nat) : Int)) W11 := by rw [← e12]; exact b9.set _
    have hx11 : W11.heap.size = x9 + 1 := by rw [← e12]; simp [World.setCell]; omega
    have hxw := HXW.out
    have hseq := all1_in 8 (by decide) W11 g (x7 + 1) (by omega) (by omega) (by omega) kv.1 kv.2 0 (by decide) (HD.out.later hb11) (HBX.out.later hb11) (HGL.out.1.later hb11) (HGL.out.2.later hb11) 21 (by decide) (by decide)
    have HSEQ := Lib.hid hseq
    have h3 := HH3.out.later hb11
    have h4 := HH4.out.later hb11
    have h7 := HH7.out.later hb11
    have hr := HR.out.later hb11
    have hbl : Below x3 w W11 := HBL.out.trans (hb11.mono (by omega))
    have hrq : R4Q w6.heap.size x9 W11 gr kv.1 kv.2 0 := by
      have h := R4Q.of_E (q := x9) HR.out (by omega)
      obtain ⟨Ak, Av, ck, cv, a1, a2, a3⟩ := h
      exact ⟨Ak, Av, ck, cv, a1.later hb11, a2, a3⟩
    have HRQ := Lib.hid hrq
    clear hrq
    have HBL11 := Lib.hid hbl
    have H311 := Lib.hid h3
    have H411 := Lib.hid h4
    have H711 := Lib.hid h7
    have H911 := Lib.hid h9
    have HX11 := Lib.hid hx11
    clear hseq h3 h4 h7 hr hbl h9 hb11 b9 hB11 s11 hxw
    gi_wp2_with fail
    have hxw := HXW.out
    refine wpIn_rangeM rfl (by decide) (gf := 39) (lb := #[.pointer (some ⟨x7 + 1, 0, none⟩)]) rfl trivial (enters_of Tryd.func39 (by kernel_rfl) rfl)
      (by omega : g < W11.heap.size) HSEQ.out (fun a b => a.trans b) (fun W l ob ob' hl _ _ _ => KpS.put (by intro q hq; simp only [List.mem_cons, List.not_mem_nil, or_false] at hq; rcases hq with rfl | rfl | rfl | rfl <;> omega) _) (fun _ => rfl)
      (fun pre W => (pre.length : Int) < k ∧ DItI w x3 x4 x7 x9 w6.heap.size gr k kv.1 kv.2 pre W)
      (fun c pre W => c = .exit 0 ∧ (pre.length : Int) = k ∧ DItI w x3 x4 x7 x9 w6.heap.size gr k kv.1 kv.2 pre W ∧ DrbgR W g (stD kv.1 kv.2 pre.length).1 (stD kv.1 kv.2 pre.length).2 ((pre.length : Nat) : Int))
      ?hI ?hIg ?hIN ?hIx (fun pre => AlR.own _ _ _ _ _ pre) ?hI0 (fun A B hA hb => KpS.below hb (by intro q hq; simp only [List.mem_cons, List.not_mem_nil, or_false] at hq; rcases hq with rfl | rfl | rfl | rfl <;> omega))
      (fun x W a' W' => a' = { tmps := #[.slice A m c, .int .i64 k, undef, .pointer (some ⟨x3, 0, none⟩), .pointer (some ⟨x4, 0, none⟩), .bool true, .pointer (some ⟨g, 0, none⟩), .pointer (some ⟨x7, 0, none⟩), .func (.func 39) #[] #[.pointer (some ⟨x7 + 1, 0, none⟩)], .pointer (some ⟨x9, 0, none⟩), W8 x, undef, .bool true, .slice A n c, .slice A m c, .slice A m c, .pointer (some ⟨g, 0, none⟩), .slice A m c, .pointer (some ⟨gr, 0, none⟩), .pointer (some ⟨g, 0, none⟩), .bool false, .pointer (some ⟨g, 0, none⟩), .func (.func 39) #[] #[.pointer (some ⟨x7 + 1, 0, none⟩)], .func (.func 39) #[] #[.pointer (some ⟨x7 + 1, 0, none⟩)], .bool false, .bool false, .int .i64 k, .bool (decide (k < 1)), .bool (decide (k < 1)), .bool (decide (k < 1)), .int .i64 k, .bool (decide (20 < k)), .bool (decide (k < 1) || decide (20 < k)), undef, undef, undef, undef, undef, .func (.func 39) #[] #[.pointer (some ⟨x7 + 1, 0, none⟩)], W8 x, undef, undef, undef, undef, undef, undef, undef, undef, undef, undef, undef, undef, undef, undef, undef, undef, undef, undef, undef, undef, undef, undef, undef, undef, undef, undef, undef], defers := [] }) ?assign ?hAx ?body ?done ?stop
    case hI =>
      rintro s W W' row ⟨h1, h2⟩ hg hr
      exact ⟨h1, DItI.own (by omega) s W W' row h2 hg hr⟩
    case hIg =>
      rintro s A B ⟨h1, h2⟩ hg
      exact ⟨h1, h2.onlyG hg (by omega) (by have := HX.out; omega) (by omega) (by omega) (by omega) (by omega)⟩
    case hIN =>
      rintro s A ⟨h1, _⟩
      omega
    case hIx =>
      rintro c s W W' row ⟨rfl, h1, h2, h3⟩ hg hr
      exact ⟨rfl, h1, DItI.own (by omega) s W W' row h2 hg hr, h3.kept hg (fun r e => (hr r e).2)⟩
    case hI0 =>
      refine ⟨by show ((0 : Nat) : Int) < k; omega, HBL11.out, H311.out, H411.out, H711.out, H911.out, ?_⟩
      exact HRQ.out
    case assign =>
      rintro l pre x W K hW hx hK
      have HKK := Lib.hid (hK _ W (Below.refl _ _) rfl)
      clear hK hx
      gi_wp2
      exact HKK.out
    case hAx =>
      rintro x W a' W' o' h1 l ob _ hl ho hc
      exact h1
    case body =>
      rintro l pre x W0 a' W hW0 rfl ⟨hlt, h2, h3, h4, h7, h9, hr⟩ ⟨hx, hd⟩
      have hsz0 : x9 < W.heap.size := h9.2.2
      obtain ⟨j, hj⟩ : ∃ j, pre.length = j := ⟨_, rfl⟩
      rw [hj] at hlt h9 hr hx hd
      have hprl : (pre ++ [x]).length = j + 1 := by rw [List.length_append, List.length_singleton, hj]
      obtain ⟨Ak, Av, ck, cv, h1, hAk, hAv⟩ := hr
      have hby := r4bytes_any W gr _ _ (j : Int) (by omega) (by omega) Ak Av ck cv h1 1 (by decide) (by decide)
      have hst1 : bytesS (stD kv.1 kv.2 j).1 (stD kv.1 kv.2 j).2 1 = stD kv.1 kv.2 (j + 1) := rfl
      rw [hst1] at hby
      have hbl : (bytesL (stD kv.1 kv.2 j).1 (stD kv.1 kv.2 j).2 1).length = 1 := fillL_length _ 32 (fun i => stepL_length _ _) (by decide) 1
      have hone : (bytesL (stD kv.1 kv.2 j).1 (stD kv.1 kv.2 j).2 1)[0]? = some x := by
        rw [List.getElem?_eq_getElem (by omega), hx]
        unfold oneD
        rw [List.getD_eq_getElem?_getD, List.getElem?_eq_getElem (by omega)]
        rfl
      obtain ⟨bl, hbll⟩ : ∃ bl, bytesL (stD kv.1 kv.2 j).1 (stD kv.1 kv.2 j).2 1 = bl := ⟨_, rfl⟩
      rw [hbll] at hby hbl hone
      obtain ⟨sd, hsd⟩ : ∃ sd, stD kv.1 kv.2 (j + 1) = sd := ⟨_, rfl⟩
      rw [hsd] at hby hd
      have q7 := h7.1
      have HBY := Lib.hid hby
      have HPL := Lib.hid hprl
      have HD := Lib.hid hd
      have HSD := Lib.hid hsd
      have HI := Lib.hid (⟨h2, h3, h4, h7, h9⟩ : Below x3 w W ∧ BxE x3 (.int .i64 k) W ∧ BxE x4 (.bool false) W ∧ BxE x7 (.pointer (some ⟨gr, 0, none⟩)) W ∧ BxE x9 (.int .i64 ((j : Nat) : Int)) W)
      have HBLL := Lib.hid (⟨hbl, hone⟩ : bl.length = 1 ∧ bl[0]? = some x)
      clear hby hst1 hbl hone hbll hsd hd h2 h3 h4 h7 h9 h1 hx hj hprl hAk hAv
      gi_wp2_with fail
      refine ⟨trivial, (CallsIn.inRound l (callsIn_wide.2 HBY.out)).mono ?_⟩
      rintro e W1 ⟨v, rfl, hfr, hE1, ho1⟩
      obtain ⟨A1, c1, rfl, hsl, hz1⟩ := hfr.sl
      obtain ⟨ba, oa, va, rfl, _, hv, hcv⟩ := hsl.at_ (k := 0) (by rw [HBLL.out.1]; decide)
      rw [HBLL.out.1] at hsl ⊢
      obtain rfl : va = W8 x := by
        rw [List.getElem?_map, HBLL.out.2] at hv
        exact (Option.some.inj hv).symm
      rw [Nat.add_zero] at hcv
      have hc1 := hsl.cap
      have kc1 : (0 : Int) < c1 := by omega
      have kx : (i8 x == i8 x) = true := by simp
      have hsz1 := ho1.size
      have h31 := HI.out.2.1.grownG ho1 (by omega)
      have h41 := HI.out.2.2.1.grownG ho1 (by have := HX.out; omega)
      have h71 := HI.out.2.2.2.1.grownG ho1 (by omega)
      have h91 := HI.out.2.2.2.2.grownG ho1 (by omega)
      have hb1 := HI.out.1.grown ho1 (by omega) (fun r e => by injection e; omega)
      have hd1 : DrbgR W1 g sd.1 sd.2 (0 + j + 1) := ⟨HD.out.hk, HD.out.hv, HD.out.row.grownG ho1 (by omega)⟩
      have hq1 : R4Q w6.heap.size x9 W1 gr sd.1 sd.2 ((j : Int) + 1) := R4Q.of_new hE1 (by omega) hsz0
      obtain ⟨W2, e2⟩ : ∃ V, W1.setCell ⟨x9, 0, none⟩ (.int .i64 ((j : Int) + 1)) = V := ⟨_, rfl⟩
      have ho2 : OnlyV W1 W2 x9 := by rw [← e2]; exact (OnlyV.refl _ _).set 0 _
      have h92 : BxE x9 (.int .i64 ((j : Int) + 1)) W2 := by rw [← e2]; exact h91.set _
      have h32 := h31.grownG ho2 (by omega)
      have h42 := h41.grownG ho2 (by have := HX.out; omega)
      have h72 := h71.grownG ho2 (by omega)
      have hb2 := hb1.grown ho2 (by omega) (fun r e => by injection e; omega)
      have hd2 : DrbgR W2 g sd.1 sd.2 (0 + j + 1) := ⟨hd1.hk, hd1.hv, hd1.row.grownG ho2 (by omega)⟩
      have hq2 := hq1.only_ ho2 (.inr rfl) (by omega)
      have q91 := h91.1
      have f91 := h91.2.1
      have q92 := h92.1
      have q32 := h32.1
      have hkf : KeepsFrom W11.heap.size W W2 := (KeepsFrom.of_grownBy ho1 (fun r e => by injection e; omega)).trans (KeepsFrom.of_grownBy ho2 (fun r e => by injection e; omega))
      have hkp : KpS [1, 4, g, x7 + 1] W W2 := ⟨Nat.le_trans hsz1 ho2.size, by
        intro q hq
        have hne : q < W.heap.size ∧ q ≠ gr ∧ q ≠ x9 := by
          simp only [List.mem_cons, List.not_mem_nil, or_false] at hq
          rcases hq with rfl | rfl | rfl | rfl <;> omega
        rw [ho2.block q (by omega) (fun e => hne.2.2 (by injection e)), ho1.block q hne.1 (fun e => hne.2.1 (by injection e))]⟩
      have hii : DItI w x3 x4 x7 x9 w6.heap.size gr k kv.1 kv.2 (pre ++ [x]) W2 := by
        refine ⟨hb2, h32, h42, h72, ?_, ?_⟩
        · rw [HPL.out]; exact h92
        · rw [HPL.out, HSD.out]; exact hq2
      have HKF := Lib.hid hkf
      have HKP := Lib.hid hkp
      have HII := Lib.hid hii
      have HD2 := Lib.hid hd2
      clear hkf hkp hii hd2 hq2 hb2 hq1 hb1 hd1 h31 h41 h71 h91 h32 h42 h72 h92 ho1 ho2 hE1 hfr hsl hv hz1
      have kj1 : (j : Int) + 1 ≤ 21 := by omega
      by_cases hjk : (j : Int) + 1 = k
      · have hjb : ((j : Int) + 1 == k) = true := by simpa using hjk
        have HJK := Lib.hid hjk
        clear hjk
        gi_wp2
        refine ⟨HKF.out, rfl, by rw [HPL.out]; have := HJK.out; omega, HII.out, ?_⟩
        have h := HD2.out
        rw [HPL.out, HSD.out, show (((j + 1 : Nat) : Nat) : Int) = 0 + j + 1 by omega]
        exact h
      · have hjb : ((j : Int) + 1 == k) = false := by simpa using hjk
        gi_wp2
        exact ⟨HKF.out, HKP.out, by rw [HPL.out]; omega, HII.out⟩
    case done =>
      intro D xs W _ h
      exact h.elim
    case stop =>
      rintro D c pre W hD _ ⟨rfl, hl, ⟨h2, h3, h4, h7, h9, hr⟩, hd⟩ hK
      obtain ⟨j, hj⟩ : ∃ j, pre.length = j := ⟨_, rfl⟩
      rw [hj] at hl h9 hr hd
      have hDl := (Array.getElem?_eq_some_iff.1 hK).1
      have hbw : Below w.heap.size w W := by rw [HX3.out]; exact h2
      have hGW : StartsG W ∧ RootsG W := ⟨HG0.out.1.later hbw, HG0.out.2.later hbw⟩
      obtain ⟨sd, hsd⟩ : ∃ sd, stD kv.1 kv.2 j = sd := ⟨_, rfl⟩
      rw [hsd] at hr hd
      obtain ⟨E, hE⟩ : ∃ E, bytesL sd.1 sd.2 9 = E := ⟨_, rfl⟩
      have hEl : E.length = 9 := by rw [← hE]; exact fillL_length _ 32 (fun i => stepL_length _ _) (by decide) 9
      have hx9l := h9.2.2
      have hB1 : ∀ V, OnlyV W V gr → Calls Tryd.prog 15 #[.pointer (some ⟨g, 0, none⟩), .int .i64 9] V fun e w' => ∃ o, e = .returned (.slice (some ⟨o, 0, none⟩) 9 9) ∧ W.heap.size ≤ o ∧ RowV 5 w' o (E.map W8) ∧ OnlyV V w' g := fun V hV => by
        have hdV : DrbgR V g sd.1 sd.2 (j : Int) := ⟨hd.hk, hd.hv, hd.row.grownG hV (by omega)⟩
        have h := dbytes_any V g (by omega) sd.1 sd.2 (j : Int) (by omega) (by omega) hdV (hGW.1.only hV (by omega)) (hGW.2.only hV (by omega)) 9 (by decide) (by decide)
        rw [hE] at h
        refine h.mono ?_
        rintro e w' ⟨o, h1, h2, h3, _, h5⟩
        exact ⟨o, h1, Nat.le_trans hV.size h2, h3, h5⟩
      have hB2 : ∀ V, OnlyV W V g → Calls Tryd.prog 14 #[.pointer (some ⟨gr, 0, none⟩), .int .i64 9] V fun e w' => ∃ A c, e = .returned (.slice A 9 c) ∧ SlV w' w'.heap.size A 9 c (E.map W8) ∧ OnlyV V w' gr := fun V hV => by
        obtain ⟨Ak, Av, ck, cv, h1, _, _⟩ := hr.only_ hV (.inl (by omega)) (by omega)
        have h := r4bytes_any V gr sd.1 sd.2 (j : Int) (by omega) (by omega) Ak Av ck cv h1 9 (by decide) (by decide)
        rw [hE] at h
        refine h.mono ?_
        rintro e w' ⟨v, rfl, hf, _, ho⟩
        obtain ⟨A, c, rfl, hs, _⟩ := hf.sl
        rw [hEl] at hs ⊢
        exact ⟨A, c, rfl, hs, ho⟩
      have hcv : ∀ (W : World) (o : Nat), RowV 5 W o (E.map W8) → (convert 22 9 (.slice (some ⟨o, 0, none⟩) 9 9)).run Tryd.prog W = .ok (strV E) W := fun W o h => by
        have hsl := h.sl (by rw [List.length_map, hEl]; decide)
        rw [List.length_map, hEl] at hsl
        exact conv_str hsl
      have hcv2 : ∀ (W : World) (A : Option Addr) (c : Nat), SlV W W.heap.size A 9 c (E.map W8) → (convert 22 9 (.slice A 9 c)).run Tryd.prog W = .ok (strV E) W := fun W A c h => conv_str h
      have ow0g : OnlyV W W.drew g := (OnlyV.refl W g).drewN 1
      have ow0r : OnlyV W W.drew gr := (OnlyV.refl W gr).drewN 1
      have q3 := h3.1
      have q9 := h9.1
      have q7 := h7.1
      have q4 := h4.1
      have f4 := h4.2.1
      have HBb := Lib.hid hB1
      have HBc := Lib.hid hB2
      have HCV := Lib.hid hcv
      have HCV2 := Lib.hid hcv2
      have HH := Lib.hid (⟨h2, h3, h4, h7, h9⟩ : Below x3 w W ∧ BxE x3 (.int .i64 k) W ∧ BxE x4 (.bool false) W ∧ BxE x7 (.pointer (some ⟨gr, 0, none⟩)) W ∧ BxE x9 (.int .i64 ((j : Nat) : Int)) W)
      have HK := Lib.hid hK
      have e1 := fun (w : World) (t : TypeId) (x y : Operand) (a b : List (BitVec 8)) => eqGuard_str (P := Tryd.prog) w .eql t x y a b
      have e2 : ∀ w', (binOp .eql 9 (strV E) (strV E)).run Tryd.prog w' = .ok (.bool true) w' := fun w' => by
        rw [eql_str w' _ E E, decide_eq_true rfl]
      obtain rfl : k = (j : Int) := hl.symm
      have kjk : ((j : Int) == (j : Int)) = true := by simp
      clear hl
      clear hB1 hB2 hcv hcv2 hr hd hGW hE hEl hK h2 h3 h4 h7 h9 hsd hbw hj
      gi_wp2_with fail
      refine (wpIn_wide (n := 9)).2 ?_
      rw [shut_conv (some 61), shut_conv (some 64)]
      go_region_held3 (fun w' => w'.cell? ⟨x3, 0, none⟩ = some (.int .i64 (j : Int)) ∧ w'.cell? ⟨x9, 0, none⟩ = some (.int .i64 ((j : Nat) : Int)) ∧ w'.cell? ⟨x7, 0, none⟩ = some (.pointer (some ⟨gr, 0, none⟩))) (go_keep)
        (first | (go_at_call 15; (with_reducible refine (HBb.out _ ow0r).mono ?_); rintro e w3 ⟨o3, rfl, hol3, hr3, oA⟩; have oa := ow0g.trans oA; have c3 := HCV.out _ _ hr3; have k3 := (HH.out.2.1.grownG oa (by omega)).1; have k7 := (HH.out.2.2.2.1.grownG oa (by omega)).1; have k9 := (HH.out.2.2.2.2.grownG oa (by omega)).1) | (go_at_call 14; (with_reducible refine (HBc.out _ oa).mono ?_); rintro e w4 ⟨A4, c4, rfl, hs4, oB⟩; have c4' := HCV2.out _ _ _ hs4; (try have c3' := HCV.out _ _ (hr3.only oB (by omega))); have b4 := (HH.out.2.2.1.grownG oa (by have := HX.out; omega)).grownG oB (by have := HX.out; omega); have p4 := b4.1; have pf4 := b4.2.1; have k3' := ((HH.out.2.1.grownG oa (by omega)).grownG oB (by omega)).1; have k7' := ((HH.out.2.2.2.1.grownG oa (by omega)).grownG oB (by omega)).1; have k9' := ((HH.out.2.2.2.2.grownG oa (by omega)).grownG oB (by omega)).1; have s3 := (((HH.out.2.1.grownG oa (by omega)).grownG oB (by omega)).far (b' := x4) (by have := HX.out; omega) (.bool true)).1; have s7 := (((HH.out.2.2.2.1.grownG oa (by omega)).grownG oB (by omega)).far (b' := x4) (by have := HX.out; omega) (.bool true)).1; have s9 := (((HH.out.2.2.2.2.grownG oa (by omega)).grownG oB (by omega)).far (b' := x4) (by have := HX.out; omega) (.bool true)).1))
      all_goals
        have hx4e := HX.out.1
        have hwz := oa.size
        have hoz := oB.size
        have hK3 : w3.heap[D]? = some (.deferred (some [])) := (oa.block D hDl (fun e => by injection e; omega)).trans HK.out
        have hK4 : w4.heap[D]? = some (.deferred (some [])) := (oB.block D (by omega) (fun e => by injection e; omega)).trans hK3
        have hK5 : (w4.setCell ⟨x4, 0, none⟩ (.bool true)).heap[D]? = some (.deferred (some [])) := (((OnlyV.refl w4 x4).set 0 (.bool true)).block D (by omega) (fun e => by injection e; omega)).trans hK4
        have b5 := b4.set (.bool true)
        have hfin : Below x3 w (w4.setCell ⟨x4, 0, none⟩ (.bool true)) := below_box ((HH.out.1.grown oa (by omega) (fun r e => by injection e; omega)).grown oB (by omega) (fun r e => by injection e; omega)) (by omega) _
        have hgr := grownBy_putObj' (w4.setCell ⟨x4, 0, none⟩ (.bool true)) D (.deferred none)
        have hnc : ∀ r, some D = some r → ∃ ob : Obj, (w4.setCell ⟨x4, 0, none⟩ (.bool true)).heap[r]? = some ob ∧ ob.isCells = false := fun r e => by cases e; exact ⟨_, hK5, rfl⟩
        have b6 := (b5.kept hgr hnc).1
        have hfin2 := hfin.grown hgr (by have := hfin.size; simp [World.setCell]; omega) (fun r e => by injection e; omega)
        clear hx4e
        have HFIN := Lib.hid hfin2
        have HK5 := Lib.hid hK5
        have HB6 := Lib.hid b6
        clear hfin hfin2 hK5 hK4 hK3 hgr hnc b5 b6
        gi_wp2
        refine ⟨by simp, .inl ⟨_, _, rfl, run_takeDeferred HK5.out, ?_⟩⟩
        refine ⟨.bool true, ?_, rfl, HFIN.out⟩
        have h6 := HB6.out
        simp [results, Tryd.f3, h6, go_sem]
  · have hex : k < 1 ∨ (1 ≤ k ∧ 20 < k) := by omega
    clear hk
    rcases hex with hk0 | ⟨hk0, hk9⟩
    all_goals
      have c4 : (w10.setCell ⟨x4, 0, none⟩ (.bool true)).cell? ⟨x4, 0, none⟩ = some (.bool true) := (HH4.out.set _).1
      have hfin : Below x3 w (w10.setCell ⟨x4, 0, none⟩ (.bool true)) := below_box HBL.out (by have := HX.out; omega) _
      have HFIN := Lib.hid hfin
      clear hfin
      gi_wp2
      refine ⟨.bool true, by simp [results, Tryd.f3, c4, go_sem], rfl, HFIN.out⟩
end Go.Proofs.YtnpaidieijlkkaaDoor

/- From the row's tables to the walks' facts: starts (rows of rows) and roots. -/
set_option linter.unusedVariables false
set_option linter.unusedSimpArgs false
namespace Go.Proofs.YtnpaidieijlkkaaDoor
open Go.RowKit

theorem cells_of_tabs {H : Type} {enc : TypeId × Value → H} {P : Program} {w : World} {base : Nat} {sp : Nat → Bool} {held : Bool} {fuel : Nat} {t t2 e : TypeId} {n m : Nat} {k : IntKind} {cs : List Value} {zss : List (List Int)} {p : List MemPlace}
    (ht : P.underlying t = some (.array n t2)) (ht2 : P.underlying t2 = some (.array m e)) (he : P.underlying e = some (.int k)) (hce : P.cellsOf e = 1) (hc2 : P.cellsOf t2 = m)
    (h : DataW.trod enc P w base sp held fuel t cs = some (.agg (zss.map (Lib.tabData k)), p)) {i : Nat} {zs : List Int} (hi : zss[i]? = some zs) {j : Nat} {z : Int} (hj : zs[j]? = some z) : cs[i * m + j]? = some (.int k z) := by
  cases fuel with
  | zero => simp [DataW.trod] at h
  | succ fuel =>
    simp only [DataW.trod, ht, hc2] at h
    split at h
    · obtain ⟨xs, hm, hx⟩ := Option.map_eq_some_iff.1 h
      have hxs : xs.map (·.1) = zss.map (Lib.tabData (H := H) k) := by
        have := congrArg Prod.fst hx
        simpa using this
      have hxl : xs.length = n := by simpa using Lib.mapM_length hm
      have hzl : zss.length = n := by
        have := congrArg List.length hxs
        simp at this
        omega
      have hin : i < n := by rw [← hzl]; exact (List.getElem?_eq_some_iff.1 hi).1
      obtain ⟨b, hb, hf⟩ := Lib.mapM_at hm i i (by simp [hin])
      have hb1 : b.1 = Lib.tabData k zs := by
        have h1 : (xs.map (·.1))[i]? = some b.1 := by simp [hb]
        rw [hxs, List.getElem?_map, hi] at h1
        exact (Option.some.inj h1).symm
      obtain ⟨b1, b2⟩ := b
      dsimp only at hb1
      subst hb1
      have hc := Lib.cells_of_tab ht2 he hce hc2 hf
      have hjm : j < m := by
        have h2 := congrArg List.length hc
        have h3 := (List.getElem?_eq_some_iff.1 hj).1
        rw [List.length_take, List.length_map] at h2
        omega
      have h4 := congrArg (·[j]?) hc
      simp only [List.getElem?_map, hj, List.getElem?_take, if_pos hjm, List.getElem?_drop, Option.map_some] at h4
      exact h4
    · cases h

def startsZ : List (List Int) := [[0, 0, 0, 0, 0, 0, 0, 0], (startsL 1).map fun x => (x.toNat : Int), (startsL 2).map fun x => (x.toNat : Int), (startsL 3).map fun x => (x.toNat : Int), (startsL 4).map fun x => (x.toNat : Int), (startsL 5).map fun x => (x.toNat : Int)]
theorem startsZ_at (k : Nat) (h1 : 1 ≤ k) (h5 : k ≤ 5) : startsZ[k]? = some ((startsL k).map fun x => (x.toNat : Int)) := by
  rcases (by omega : k = 1 ∨ k = 2 ∨ k = 3 ∨ k = 4 ∨ k = 5) with rfl | rfl | rfl | rfl | rfl <;> rfl
theorem startsG_of {W : World} {rest : List (String × DataW Unit)} {t t2 e : TypeId} (hg : Tryd.prog.globalNamed "bailey/hashes.starts" = some 1) (hty : (Tryd.prog.globals[1]?).map (·.type) = some t)
    (ht : Tryd.prog.underlying t = some (.array 6 t2)) (ht2 : Tryd.prog.underlying t2 = some (.array 8 e)) (he : Tryd.prog.underlying e = some (.int .u64)) (hce : Tryd.prog.cellsOf e = 1) (hc2 : Tryd.prog.cellsOf t2 = 8)
    (h : laidMet Tryd.prog (("bailey/hashes.starts", .agg (startsZ.map (Lib.tabData .u64))) :: rest) W) : StartsG W := by
  obtain ⟨ps, ⟨g', t', cs, fuel, p, q, hg', ht', hvar, hd, _, _⟩, _⟩ := h
  obtain rfl := Option.some.inj (hg.symm.trans hg')
  obtain rfl := Option.some.inj (hty.symm.trans ht')
  have hc : ∀ (k : Nat) (zs : List Int), startsZ[k]? = some zs → ∀ (j : Nat) (z : Int), zs[j]? = some z → W.cell? ⟨1, k * 8 + j, none⟩ = some (.int .u64 z) := fun k zs hk j z hj => by
    have h1 := cells_of_tabs ht ht2 he hce hc2 hd hk hj
    rw [World.var?_cell hg hvar]
    simpa using h1
  refine ⟨World.block_lt_of_cell? W _ (hc 0 _ rfl 0 0 rfl), fun k h1 h5 j v hv => ?_⟩
  rw [List.getElem?_map, Option.map_eq_some_iff] at hv
  obtain ⟨x, hx, rfl⟩ := hv
  exact hc k _ (startsZ_at k h1 h5) j _ (by rw [List.getElem?_map, hx]; rfl)
theorem rootsG_of {W : World} (t : Lib.TabIs Tryd.prog W "bailey/hashes.roots" .u64 (rootsL.map fun x => (x.toNat : Int))) (g : Tryd.prog.globalNamed "bailey/hashes.roots" = some 4) : RootsG W := by
  have hl : (rootsL.map fun x => (x.toNat : Int)).length = 80 := rfl
  have hc := fun i (hi : i < 80) => t.cell g i (by rw [hl]; exact hi)
  refine ⟨World.block_lt_of_cell? W _ (hc 0 (by decide)), fun k x hx => ?_⟩
  have hk : k < 80 := (List.getElem?_eq_some_iff.1 hx).1
  rw [hc k hk, List.getD_eq_getElem?_getD, List.getElem?_map, hx]
  rfl
/-- a block's cells laid anew -/
def layAt (cs : Array Value) : Obj → Obj
  | .cells _ t frozen => .cells cs t frozen
  | o => o
def startsC : Array Value := (startsZ.flatten.map fun z => Value.int .u64 z).toArray
def rootsC : Array Value := (rootsL.map fun x => Value.int .u64 (x.toNat : Int)).toArray
theorem rows_starts : (Rows.laid_bailey_hashes_starts : DataW Unit) = .agg (startsZ.map (Lib.tabData .u64)) := by kernel_rfl
theorem rows_roots : (Rows.laid_bailey_hashes_roots : DataW Unit) = Lib.tabData .u64 (rootsL.map fun x => (x.toNat : Int)) := by kernel_rfl
theorem gStarts : Tryd.prog.globalNamed "bailey/hashes.starts" = some 1 := by kernel_rfl
theorem gRoots : Tryd.prog.globalNamed "bailey/hashes.roots" = some 4 := by kernel_rfl
theorem tStarts : (Tryd.prog.globals[1]?).map (·.type) = some 123 := by kernel_rfl
theorem tRoots : (Tryd.prog.globals[4]?).map (·.type) = some 173 := by kernel_rfl
theorem cells8 : Tryd.prog.cellsOf 122 = 8 := by kernel_rfl
theorem cells80 : Tryd.prog.cellsOf 173 = 80 := by kernel_rfl
theorem cells64 : Tryd.prog.cellsOf 59 = 1 := by kernel_rfl
theorem hashTabs {W : World} (h : laidMet Tryd.prog [("bailey/hashes.starts", Rows.laid_bailey_hashes_starts), ("bailey/hashes.roots", Rows.laid_bailey_hashes_roots)] W) : StartsG W ∧ RootsG W := by
  rw [rows_starts, rows_roots] at h
  exact ⟨startsG_of gStarts tStarts Tryd.underlying123 Tryd.underlying122 Tryd.underlying59 cells64 cells8 h,
    rootsG_of (Lib.tabIs_of_head gRoots tRoots Tryd.underlying173 Tryd.underlying59 cells64 cells80 h.tail) gRoots⟩
end Go.Proofs.YtnpaidieijlkkaaDoor
