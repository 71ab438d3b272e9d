/- Parts of one proof, joined: ModE, ModF, ModG, RangeR, ModH, Tabs, ModI, ModJ, ModK. -/
import Derived.Test.YtdcijkjlgkfkdaaDoorPile5
import Derived.Test.YtdcijkjlgkfkdaaDoorPile3
import Derived.Deep.RegionHeld3
import Derived.Test.YtdcijkjlgkfkdaaDoorPile2
import Derived.Lib.LaidTab
import Derived.RecoverIn

/- modarith: Exp. -/
namespace Go.Proofs.YtdcijkjlgkfkdaaDoor
open Go.RowKit Go.Shelf
attribute [local go_sem] Oper.semAt_some

theorem newboxE (w : World) (t : TypeId) (v : Value) : ∃ W, w.alloc (.cells #[v] t) = W ∧ Below w.heap.size w W ∧ W.cell? ⟨w.heap.size, 0, none⟩ = some v ∧ W.frozen? ⟨w.heap.size, 0, none⟩ = false ∧ W.heap.size = w.heap.size + 1 :=
  ⟨_, rfl, (Below.refl _ _).alloc (Nat.le_refl _) _, (Boxed.new w t v).cell, (Boxed.new w t v).frozen, by simp⟩
/-- a box below the heap's end holds v -/
def BxE (b : Nat) (v : Value) (W : World) : Prop := W.cell? ⟨b, 0, none⟩ = some v ∧ W.frozen? ⟨b, 0, none⟩ = false ∧ b < W.heap.size
theorem BxE.later {b : Nat} {v : Value} {W W' : World} (h : BxE b v W) (hb : Below W.heap.size W W') : BxE b v W' :=
  ⟨(hb.cell (p := ⟨b, 0, none⟩) h.2.2).trans h.1, (hb.frozen (p := ⟨b, 0, none⟩) h.2.2).trans h.2.1, Nat.lt_of_lt_of_le h.2.2 hb.size⟩

theorem bits_ex (N : Nat) : ∃ k, IsBits N k := by
  have h : ∀ m, N < 2 ^ m → ∃ k, IsBits N k := by
    intro m
    induction m with
    | zero => intro h; exact ⟨0, h, fun h => absurd rfl h⟩
    | succ m ih =>
      intro h
      rcases Nat.lt_or_ge N (2 ^ m) with h1 | h1
      · exact ih h1
      · exact ⟨m + 1, h, fun _ => h1⟩
  exact h N Nat.lt_two_pow_self
theorem lg_mono {q a b : Nat} (h : Lg q a) (hab : a ≤ b) : Lg q b := Nat.le_trans h hab
/-- a call, and its result stored into the box -/
structure ExSt (W W9 : World) (g g5 : Nat) (v : Value) : Prop where
  kf : ∀ B, KeepsFrom B W W9
  bel : Below g W W9
  kp : ∀ A n c xs, KpX g g5 A n c xs W W9
  cell : W9.cell? ⟨g, 0, none⟩ = some v
  fr : W9.frozen? ⟨g, 0, none⟩ = false
  lt : g < W9.heap.size
  lt5 : g5 < W9.heap.size
theorem exSt {W w8 W9 : World} {g g5 nq cq : Nat} {Aq : Option Addr} {v : Value} (hb : Below W.heap.size W w8) (e1 : W.cell? ⟨g, 0, none⟩ = some (.slice Aq nq cq)) (e2 : W.frozen? ⟨g, 0, none⟩ = false) (hg : g < W.heap.size) (h5 : g5 < W.heap.size) (hne : g < g5) (e9 : w8.setCell ⟨g, 0, none⟩ v = W9) :
    ExSt W W9 g g5 v ∧ W9.heap.size = w8.heap.size ∧ (∀ A n c xs, Sl w8 w8.heap.size A n c xs → Sl W9 W9.heap.size A n c xs) := by
  have cg := (hb.cell (p := ⟨g, 0, none⟩) hg).trans e1
  have fg := (hb.frozen (p := ⟨g, 0, none⟩) hg).trans e2
  have hno : ∀ x : Nat, w8.cell? ⟨g, 0, none⟩ ≠ some (.int .u64 (x : Int)) := fun x h => by rw [cg] at h; cases h
  have hz : W9.heap.size = w8.heap.size := by rw [← e9]; simp [World.setCell]
  have hsl : ∀ A n c xs, Sl w8 w8.heap.size A n c xs → Sl W9 W9.heap.size A n c xs := fun A n c xs h => by
    rw [hz, ← e9]; exact h.setOther hno _
  have hk : KeepsOthers w8 W9 := by rw [← e9]; exact KeepsOthers.setCell _ _ _
  have hbg : Below g W W9 := (hb.mono (Nat.le_of_lt hg)).trans (by rw [← e9]; exact (Below.refl _ _).setCell (p := ⟨g, 0, none⟩) (Nat.le_refl _) _)
  refine ⟨⟨fun B => ?_, hbg, fun A n c xs => ⟨hbg, ?_, fun h => hsl _ _ _ _ (h.later hb (Nat.le_refl _))⟩, ?_, ?_, ?_, ?_⟩, hz, hsl⟩
  · exact KeepsFrom.trans ⟨hb.size, fun k o _ h _ => (hb.block k (Array.getElem?_eq_some_iff.1 h).1).trans h⟩ (hk.from B)
  · rw [← e9]
    exact (Below.heap_setCell _ _ _ _ (by show g5 ≠ g; omega)).trans (hb.block g5 h5)
  · rw [← e9]; exact World.cell?_setCell_same' _ _ _ (by rw [cg]; rfl)
  · rw [← e9, World.frozen?_setCell]; exact fg
  · rw [hz]; exact Nat.lt_of_lt_of_le hg hb.size
  · rw [hz]; exact Nat.lt_of_lt_of_le h5 hb.size
/-- what the power's box holds between the rounds -/
def ExJ (g k0 N E M : Nat) (pre : List (Ix k0)) (W : World) : Prop :=
  ∃ Aq nq cq q pq, W.cell? ⟨g, 0, none⟩ = some (.slice Aq nq cq) ∧ W.frozen? ⟨g, 0, none⟩ = false ∧ g < W.heap.size ∧ Sl W W.heap.size Aq nq cq q ∧ Nm b64 q pq ∧ pq < M ∧ (pre.map (·.1) = downL k0 pre.length → pq = N ^ (E / 2 ^ (k0 - pre.length)) % M)
/-- what the first power's region makes -/
structure ExB where
  A1 : Option Addr
  n1 : Nat
  c1 : Nat
  rs : List Nat
  A : Option Addr
  n : Nat
  c : Nat
  r : List Nat
  g : Nat
def exVals (v5 : Value) (b : ExB) (j : Nat) : Value :=
  [.slice b.A1 b.n1 b.c1, v5, .tuple #[.slice b.A b.n b.c, .bool true], .tuple #[.slice b.A b.n b.c, .bool true], .slice b.A b.n b.c, .bool true, .pointer (some ⟨b.g, 0, none⟩), undef, .bool true].getD j undef
structure ExW (W : World) (M : Nat) (b : ExB) (L : Array Bool) (w : World) : Prop where
  bel : Below W.heap.size W w
  one : L.getD 0 false = true → Sl w w.heap.size b.A1 b.n1 b.c1 b.rs ∧ Nm b64 b.rs 1
  mod : L.getD 2 false = true → Sl w w.heap.size b.A b.n b.c b.r ∧ Nm b64 b.r (1 % M)
  box : L.getD 6 false = true → W.heap.size ≤ b.g ∧ b.g < w.heap.size ∧ w.frozen? ⟨b.g, 0, none⟩ = false
  old : L.getD 6 false = true → L.getD 7 false = false → w.cell? ⟨b.g, 0, none⟩ = some (.slice none 0 0)
  new : L.getD 7 false = true → w.cell? ⟨b.g, 0, none⟩ = some (.slice b.A b.n b.c)
theorem ExW.same {W w : World} {M : Nat} {b : ExB} {L : Array Bool} (h : ExW W M b L w) {k : Nat} (h0 : k ≠ 0) (h2 : k ≠ 2) (h6 : k ≠ 6) (h7 : k ≠ 7) : ExW W M b (L.setIfInBounds k true) w := by
  refine ⟨h.bel, ?_, ?_, ?_, ?_, ?_⟩
  · rw [getD_set_other L h0]; exact h.one
  · rw [getD_set_other L h2]; exact h.mod
  · rw [getD_set_other L h6]; exact h.box
  · rw [getD_set_other L h6, getD_set_other L h7]; exact h.old
  · rw [getD_set_other L h7]; exact h.new
theorem Sl.setOtherE {w : World} {B n c : Nat} {A : Option Addr} {xs : List Nat} (h : Sl w B A n c xs) {p : Addr} (hp : ∀ x : Nat, w.cell? p ≠ some (.int .u64 (x : Int))) (u : Value) : Sl (w.setCell p u) B A n c xs := h.setOther hp u

set_option maxRecDepth 100000 in
set_option maxHeartbeats 4000000 in
theorem exp_any (w : World) (A1 : Option Addr) (n1 c1 : Nat) (xs : List Nat) (hs1 : Sl w w.heap.size A1 n1 c1 xs) (A2 : Option Addr) (n2 c2 : Nat) (ys : List Nat) (hs2 : Sl w w.heap.size A2 n2 c2 ys) (A3 : Option Addr) (n3 c3 : Nat) (zs : List Nat) (hs3 : Sl w w.heap.size A3 n3 c3 zs)
    (hd1 : Dg b64 xs) (hd2 : Dg b64 ys) (hd3 : Dg b64 zs)
    (hn1 : n1 ≤ 10000000) (hn2 : n2 ≤ 10000000) (hn3 : n3 ≤ 10000000) (N E M : Nat) (hN : V b64 xs = N) (hE : V b64 ys = E) (hM : V b64 zs = M) :
    Calls Tryd.prog 13 #[.slice A1 n1 c1, .slice A2 n2 c2, .slice A3 n3 c3] w fun e w' => RetM w (¬ Lg 4096 N ∧ ¬ Lg 4096 E ∧ ¬ Lg 4096 M ∧ M ≠ 0) (N ^ E % M) e w' := by
  obtain ⟨W1, e1, hB, c5, f5, s5⟩ := newboxE w 23 (.slice A3 n3 c3)
  have HN := Lib.hid hN
  have HE := Lib.hid hE
  have HM := Lib.hid hM
  have HD1 := Lib.hid hd1
  have HD2 := Lib.hid hd2
  have HD3 := Lib.hid hd3
  have hs1' := hs1.later hB (Nat.le_refl _)
  have hs2' := hs2.later hB (Nat.le_refl _)
  have hs3' := hs3.later hB (Nat.le_refl _)
  have hmo := mod_any W1 _ _ _ _ hs1' _ _ _ _ hs3' hd1 hd3 (by omega) (by omega) N M hN hM
  have HMO := Lib.hid hmo
  obtain ⟨b5, hb5⟩ : ∃ b, w.heap.size = b := ⟨_, rfl⟩
  rw [hb5] at c5 f5 s5 hB
  have HB5 := Lib.hid hb5
  have h5 : BxE b5 (.slice A3 n3 c3) W1 := ⟨c5, f5, by omega⟩
  clear hN hE hM hd1 hd2 hd3 hs1 hs2 hs3 hmo
  refine (callsIn_wide (n := 9)).1 ?_
  refine callsIn_of_wp_marks Tryd.func13 rfl trivial ?_ rfl
  simp only [Tryd.ntmps13, List.size_toArray, List.length_cons, List.length_nil, Nat.reduceAdd, Nat.reduceSub, Array.replicate_succ, Array.replicate_zero, List.push_toArray, List.append_toArray, List.nil_append, List.cons_append]
  gi_wp2_with fail
  clear e1 hb5
  refine ⟨trivial, (callsIn_wide.2 HMO.out).mono ?_⟩
  rintro e w2 ⟨b, Ab, nb, cb, r, rfl, hok, hno, hyes, hsr, hc⟩
  have HOK := Lib.hid hok
  have HNO := Lib.hid hno
  have HYES := Lib.hid hyes
  replace h5 := h5.later hc
  replace hs1' := hs1'.later hc (Nat.le_refl _)
  replace hs2' := hs2'.later hc (Nat.le_refl _)
  replace hs3' := hs3'.later hc (Nat.le_refl _)
  replace hB := hB.trans (hc.mono (by rw [s5]; omega))
  clear hok hno hyes hc c5 f5 s5
  obtain ⟨W3, e3, hBW, c8, f8, s8⟩ := newboxE w2 23 (.slice none 0 0)
  obtain ⟨b8, hb8⟩ : ∃ b, w2.heap.size = b := ⟨_, rfl⟩
  rw [hb8] at c8 f8 s8
  have h8 : BxE b8 (.slice Ab nb cb) (W3.setCell ⟨b8, 0, none⟩ (.slice Ab nb cb)) :=
    ⟨World.cell?_setCell_same' _ _ _ (by rw [c8]; rfl), by rw [World.frozen?_setCell]; exact f8, by simp [World.setCell]; omega⟩
  have hBx : Below w2.heap.size w2 (W3.setCell ⟨b8, 0, none⟩ (.slice Ab nb cb)) := hBW.setCell (p := ⟨b8, 0, none⟩) (by show _ ≤ b8; omega) _
  obtain ⟨W4, e4⟩ : ∃ W4, W3.setCell ⟨b8, 0, none⟩ (.slice Ab nb cb) = W4 := ⟨_, rfl⟩
  rw [e4] at h8 hBx
  have h85 : b5 < b8 := by have := h5.2.2; omega
  replace h5 := h5.later hBx
  replace hs1' := hs1'.later hBx (Nat.le_refl _)
  replace hs2' := hs2'.later hBx (Nat.le_refl _)
  replace hs3' := hs3'.later hBx (Nat.le_refl _)
  replace hsr := hsr.later hBx (Nat.le_refl _)
  replace hB := hB.trans (hBx.mono (by have := hB.size; have := HB5.out; omega))
  obtain ⟨W5, e5, hBy, c9, f9, s9⟩ := newboxE W4 23 (.slice A2 n2 c2)
  obtain ⟨b9, hb9⟩ : ∃ b, W4.heap.size = b := ⟨_, rfl⟩
  have hB9 : b5 ≤ b9 := by have := h8.2.2; omega
  have ht : Tl W5 b9 [⟨A2, n2, c2, ys⟩] := by
    rw [← e5, ← hb9]
    exact tl_new W4 23 [⟨A2, n2, c2, ys⟩] (by
      intro x hx
      simp at hx
      subst hx
      exact ⟨hs2', HD2.out, by show n2 ≤ _; omega⟩)
  have htl := tooLong_any W5 b9 1 _ rfl (by decide) ht
  have HTL := Lib.hid htl
  clear ht htl
  rcases b with _ | _
  · have hnok : ¬ (¬ Lg 4096 N ∧ ¬ Lg 4096 E ∧ ¬ Lg 4096 M ∧ M ≠ 0) := fun h => by have := HOK.out.2 ⟨h.1, h.2.2.1, h.2.2.2⟩; cases this
    have HNOK := Lib.hid hnok
    clear hnok
    gi_wp2_with fail
    refine ⟨trivial, ?_⟩
    gi_wp2
    refine ⟨.tuple #[.slice none 0 0, .bool false], ?_, RetM.no HNOK.out ?_⟩
    · simp [results, Tryd.f13, go_sem]
    · rw [HB5.out]; exact hB
  · gi_wp2_with fail
    refine ⟨trivial, (callsIn_wide.2 HTL.out).mono ?_⟩
    rintro e w6 ⟨⟨b, rfl, hbt⟩, rfl⟩
    have HBT := Lib.hid hbt
    clear hbt e3 e4 e5 hb8 hBW c8 f8 s8
    rw [hb9] at c9 f9 s9 hBy
    replace h5 := h5.later (by rw [hb9]; exact hBy)
    replace h8 := h8.later (by rw [hb9]; exact hBy)
    replace hs1' := hs1'.later (by rw [hb9]; exact hBy) (Nat.le_refl _)
    replace hs2' := hs2'.later (by rw [hb9]; exact hBy) (Nat.le_refl _)
    replace hs3' := hs3'.later (by rw [hb9]; exact hBy) (Nat.le_refl _)
    replace hsr := hsr.later (by rw [hb9]; exact hBy) (Nat.le_refl _)
    replace hB := hB.trans (hBy.mono hB9)
    clear hb9 c9 f9
    rcases b with _ | _
    · have hM0 : ¬ Lg 4096 M ∧ M ≠ 0 := by
        have := HOK.out.1 (by first | rfl | trivial)
        exact ⟨this.2.1, this.2.2⟩
      have hEl : ¬ Lg 4096 E := fun h => by
        have := HBT.out.2 ⟨⟨A2, n2, c2, ys⟩, by simp, by rw [HE.out]; exact h⟩; cases this
      have h1l : ¬ Lg 4096 1 := by
        unfold Lg
        have := Nat.one_lt_two_pow (n := 4096) (by decide)
        omega
      have HM0 := Lib.hid hM0
      have HEL := Lib.hid hEl
      have H1L := Lib.hid h1l
      have hmx : Tryd.prog.follows .mixedOrders = true := by kernel_rfl
      have c5 := h5.1
      have l5 := h5.2.2
      have hWo0 : ExW W5 M ⟨none, 0, 0, [], none, 0, 0, [], 0⟩ (Array.replicate 9 false) W5.drew :=
        ⟨(Below.refl _ W5).drew, fun h => (by exact absurd h (by decide)), fun h => (by exact absurd h (by decide)), fun h => (by exact absurd h (by decide)), fun h => (by exact absurd h (by decide)), fun h => (by exact absurd h (by decide))⟩
      have HW0 := Lib.hid hWo0
      clear hM0 hEl h1l hWo0
      gi_wp2
      refine wpIn_region_rel hmx ?hd1 (exVals (.slice A3 n3 c3)) (ExW W5 M) ⟨none, 0, 0, [], none, 0, 0, [], 0⟩ HW0.out ?hstep1 ?hend1 ?hac1
      case hd1 => exact distinct_of (by kernel_rfl)
      case hac1 => exact acyclic_of (by kernel_rfl)
      case hstep1 =>
        intro b L a' w'' hWo hs hdf hcl hold hnew i' hi' oi hoi K hK
        obtain ⟨hnl, o2, ho2, hdep⟩ := mem_ready.1 hi'
        obtain rfl : oi = o2 := Option.some.inj (hoi.symm.trans ho2)
        have hlt : i' < 9 := (Array.getElem?_eq_some_iff.1 hoi).1
        have t5 : a'.tmps.getD 5 undef = .pointer (some ⟨b5, 0, none⟩) := hold 5 (free_of (by kernel_rfl))
        clear hold
        have k5 := (hWo.bel.cell (p := ⟨b5, 0, none⟩) l5).trans c5
        have h0 := unlisted hnl
        obtain rfl | rfl | rfl | rfl | rfl | rfl | rfl | rfl | rfl : i' = 0 ∨ i' = 1 ∨ i' = 2 ∨ i' = 3 ∨ i' = 4 ∨ i' = 5 ∨ i' = 6 ∨ i' = 7 ∨ i' = 8 := by omega
        all_goals
          have hoi' := hoi
          simp only [List.getElem?_toArray, List.getElem?_cons_zero, List.getElem?_cons_succ, Option.some.injEq] at hoi'
          subst hoi'
        · have ho : Calls Tryd.prog 36 #[.int .u64 1] w'' (fun e w' => RetN b64 w'' 1 e w') := of_any 1 (by decide) w''
          refine in_call_any (f := 36) (args := #[.int .u64 1]) hoi rfl (by intro c h; cases h) rfl (fun _ _ => trivial) ?_ (callsIn_wide.2 (ho.mono ?_))
          · simp [Act.eval, go_sem]
          · rintro e w3 ⟨rs, hrs, Ar, nr, cr, rfl, hsr1, hbr⟩
            refine ⟨_, rfl, hK ⟨Ar, nr, cr, rs, b.A, b.n, b.c, b.r, b.g⟩ _ (fun j hj => ?_) ?_⟩
            · match j, hj with
              | 0, hj => rw [h0] at hj; cases hj
              | 1, _ => rfl
              | 2, _ => rfl
              | 3, _ => rfl
              | 4, _ => rfl
              | 5, _ => rfl
              | 6, _ => rfl
              | 7, _ => rfl
              | 8, _ => rfl
              | _ + 9, _ => rfl
            · refine ⟨hWo.bel.trans (hbr.mono hWo.bel.size), fun _ => ⟨hsr1, hrs⟩, ?_, ?_, ?_, ?_⟩
              · rw [getD_set_other L (by decide)]; intro h; obtain ⟨z1, z2⟩ := hWo.mod h; exact ⟨z1.later hbr (Nat.le_refl _), z2⟩
              · rw [getD_set_other L (by decide)]; intro h; obtain ⟨z1, z2, z3⟩ := hWo.box h; exact ⟨z1, Nat.lt_of_lt_of_le z2 hbr.size, (hbr.frozen (p := ⟨b.g, 0, none⟩) z2).trans z3⟩
              · rw [getD_set_other L (by decide), getD_set_other L (by decide)]; intro h h7; exact (hbr.cell (p := ⟨b.g, 0, none⟩) (hWo.box h).2.1).trans (hWo.old h h7)
              · rw [getD_set_other L (by decide)]
                intro h
                have h6 := hcl 7 _ rfl h ⟨6, .data⟩ (by simp) rfl
                exact (hbr.cell (p := ⟨b.g, 0, none⟩) (hWo.box h6).2.1).trans (hWo.new h)
        · refine in_value hoi rfl (by intro c h; cases h) (fun _ _ => trivial) ?_ (hK b _ (fun _ _ => rfl) (hWo.same (by decide) (by decide) (by decide) (by decide)))
          simp [execOp, Act.eval, t5, k5, go_sem, exVals]
        · have u1 := hnew 0 _ 28 rfl rfl (hdep ⟨0, .data⟩ (by simp) rfl) (by simp)
          have u2 := hnew 1 _ 29 rfl rfl (hdep ⟨1, .data⟩ (by simp) rfl) (by simp)
          simp only [exVals, List.getD_cons_zero, List.getD_cons_succ] at u1 u2
          have h3 : L.getD 3 false = false := by
            apply Classical.byContradiction
            intro h
            have h2 := hcl 3 _ rfl (by simpa using h) ⟨2, .data⟩ (by simp) rfl
            rw [h0] at h2
            cases h2
          have h4 : L.getD 4 false = false := by
            apply Classical.byContradiction
            intro h
            have h2 := hcl 4 _ rfl (by simpa using h) ⟨3, .data⟩ (by simp) rfl
            rw [h3] at h2
            cases h2
          have h7 : L.getD 7 false = false := by
            apply Classical.byContradiction
            intro h
            have h2 := hcl 7 _ rfl (by simpa using h) ⟨4, .data⟩ (by simp) rfl
            rw [h4] at h2
            cases h2
          obtain ⟨y1, y2⟩ := hWo.one (hdep ⟨0, .data⟩ (by simp) rfl)
          have hl1 : b.n1 ≤ 1 := by rw [y1.len]; exact y2.length_le (by decide) (k := 1) (by decide)
          have hmo := mod_any w'' _ _ _ _ y1 _ _ _ _ (hs3'.later hWo.bel (Nat.le_refl _)) y2.1 HD3.out (by omega) (by omega) 1 M y2.2.2 HM.out
          refine in_call_any (f := 11) (args := #[.slice b.A1 b.n1 b.c1, .slice A3 n3 c3]) hoi rfl (by intro c h; cases h) rfl (fun _ _ => trivial) ?_ (callsIn_wide.2 (hmo.mono ?_))
          · simp [Act.eval, u1, u2, go_sem]
          · rintro e w3 ⟨b', Ar, nr, cr, rs, rfl, hok, hno, hyes, hsr1, hbr⟩
            obtain rfl : b' = true := hok.2 ⟨H1L.out, HM0.out.1, HM0.out.2⟩
            refine ⟨_, rfl, hK ⟨b.A1, b.n1, b.c1, b.rs, Ar, nr, cr, rs, b.g⟩ _ (fun j hj => ?_) ?_⟩
            · match j, hj with
              | 0, _ => rfl
              | 1, _ => rfl
              | 2, hj => rw [h0] at hj; cases hj
              | 3, hj => rw [h3] at hj; cases hj
              | 4, hj => rw [h4] at hj; cases hj
              | 5, _ => rfl
              | 6, _ => rfl
              | 7, _ => rfl
              | 8, _ => rfl
              | _ + 9, _ => rfl
            · refine ⟨hWo.bel.trans (hbr.mono hWo.bel.size), ?_, fun _ => ⟨hsr1, hyes rfl⟩, ?_, ?_, ?_⟩
              · rw [getD_set_other L (by decide)]; intro h; exact ⟨y1.later hbr (Nat.le_refl _), y2⟩
              · rw [getD_set_other L (by decide)]; intro h; obtain ⟨z1, z2, z3⟩ := hWo.box h; exact ⟨z1, Nat.lt_of_lt_of_le z2 hbr.size, (hbr.frozen (p := ⟨b.g, 0, none⟩) z2).trans z3⟩
              · rw [getD_set_other L (by decide), getD_set_other L (by decide)]; intro h h7; exact (hbr.cell (p := ⟨b.g, 0, none⟩) (hWo.box h).2.1).trans (hWo.old h h7)
              · rw [getD_set_other L (by decide), h7]; intro h; cases h
        · have u := hnew 2 _ 30 rfl rfl (hdep ⟨2, .data⟩ (by simp) rfl) (by simp)
          simp only [exVals, List.getD_cons_zero, List.getD_cons_succ] at u
          refine in_value hoi rfl (by intro c h; cases h) (fun _ _ => trivial) ?_ (hK b _ (fun _ _ => rfl) (hWo.same (by decide) (by decide) (by decide) (by decide)))
          simp [execOp, Act.eval, u, go_sem, exVals]
        · have u := hnew 3 _ 27 rfl rfl (hdep ⟨3, .data⟩ (by simp) rfl) (by simp)
          simp only [exVals, List.getD_cons_zero, List.getD_cons_succ] at u
          refine in_value hoi rfl (by intro c h; cases h) (fun _ _ => trivial) ?_ (hK b _ (fun _ _ => rfl) (hWo.same (by decide) (by decide) (by decide) (by decide)))
          simp [execOp, Act.eval, u, go_sem, exVals]
        · have u := hnew 3 _ 27 rfl rfl (hdep ⟨3, .data⟩ (by simp) rfl) (by simp)
          simp only [exVals, List.getD_cons_zero, List.getD_cons_succ] at u
          refine in_value hoi rfl (by intro c h; cases h) (fun _ _ => trivial) ?_ (hK b _ (fun _ _ => rfl) (hWo.same (by decide) (by decide) (by decide) (by decide)))
          simp [execOp, Act.eval, u, go_sem, exVals]
        · have h7 : L.getD 7 false = false := by
            apply Classical.byContradiction
            intro h
            have h2 := hcl 7 _ rfl (by simpa using h) ⟨6, .data⟩ (by simp) rfl
            rw [h0] at h2
            cases h2
          obtain ⟨Wn, en, hbn, cn, fn, sn⟩ := newboxE w'' 23 (.slice none 0 0)
          refine in_value (w' := Wn) (v := .pointer (some ⟨w''.heap.size, 0, none⟩)) hoi rfl (by intro c h; cases h) (fun _ _ => trivial) ?_ (hK ⟨b.A1, b.n1, b.c1, b.rs, b.A, b.n, b.c, b.r, w''.heap.size⟩ _ (fun j hj => ?_) ?_)
          · rw [← en]
            simp [execOp, go_sem]
          · match j, hj with
            | 0, _ => rfl
            | 1, _ => rfl
            | 2, _ => rfl
            | 3, _ => rfl
            | 4, _ => rfl
            | 5, _ => rfl
            | 6, hj => rw [h0] at hj; cases hj
            | 7, _ => rfl
            | 8, _ => rfl
            | _ + 9, _ => rfl
          · refine ⟨hWo.bel.trans (hbn.mono hWo.bel.size), ?_, ?_, fun _ => ⟨hWo.bel.size, by rw [sn]; exact Nat.lt_succ_self _, fn⟩, fun _ _ => cn, ?_⟩
            · rw [getD_set_other L (by decide)]; intro h; obtain ⟨z1, z2⟩ := hWo.one h; exact ⟨z1.later hbn (Nat.le_refl _), z2⟩
            · rw [getD_set_other L (by decide)]; intro h; obtain ⟨z1, z2⟩ := hWo.mod h; exact ⟨z1.later hbn (Nat.le_refl _), z2⟩
            · rw [getD_set_other L (by decide), h7]; intro h; cases h
        · have u1 := hnew 6 _ 10 rfl rfl (hdep ⟨6, .data⟩ (by simp) rfl) (by simp)
          have u2 := hnew 4 _ 31 rfl rfl (hdep ⟨4, .data⟩ (by simp) rfl) (by simp)
          simp only [exVals, List.getD_cons_zero, List.getD_cons_succ] at u1 u2
          have h6 : L.getD 6 false = true := hdep ⟨6, .data⟩ (by simp) rfl
          have hcz := hWo.old h6 h0
          obtain ⟨z1, z2, hfz⟩ := hWo.box h6
          have hno : ∀ x : Nat, w''.cell? ⟨b.g, 0, none⟩ ≠ some (.int .u64 (x : Int)) := fun x h => by rw [hcz] at h; cases h
          have hz : (w''.setCell ⟨b.g, 0, none⟩ (.slice b.A b.n b.c)).heap.size = w''.heap.size := by simp [World.setCell]
          refine in_skip (w' := w''.setCell ⟨b.g, 0, none⟩ (.slice b.A b.n b.c)) hoi rfl (by intro c h; cases h) (fun _ _ => trivial) ?_ (hK b _ (fun _ _ => rfl) ?_)
          · simp [execOp, Act.eval, u1, u2, go_sem, stored, hcz, hfz]
          · refine ⟨hWo.bel.setCell (p := ⟨b.g, 0, none⟩) z1 _, ?_, ?_, ?_, ?_, fun _ => World.cell?_setCell_same' _ _ _ (by rw [hcz]; rfl)⟩
            · rw [getD_set_other L (by decide), hz]; intro h; obtain ⟨z1, z2⟩ := hWo.one h; exact ⟨z1.setOther hno _, z2⟩
            · rw [getD_set_other L (by decide), hz]; intro h; obtain ⟨z1, z2⟩ := hWo.mod h; exact ⟨z1.setOther hno _, z2⟩
            · rw [getD_set_other L (by decide), hz, World.frozen?_setCell]; exact hWo.box
            · intro _ h
              rw [getD_set_self L (by rw [hs]; decide)] at h
              cases h
        · have u := hnew 5 _ 32 rfl rfl (hdep ⟨5, .data⟩ (by simp) rfl) (by simp)
          simp only [exVals, List.getD_cons_zero, List.getD_cons_succ] at u
          refine in_value hoi rfl (by intro c h; cases h) (fun _ _ => trivial) ?_ (hK b _ (fun _ _ => rfl) (hWo.same (by decide) (by decide) (by decide) (by decide)))
          simp [execOp, Act.eval, u, go_sem, exVals]
      case hend1 =>
        intro b L w'' hWo hL
        obtain ⟨hbr, hbn⟩ := hWo.mod (hL 2 (by decide))
        obtain ⟨z1, z2, z3⟩ := hWo.box (hL 6 (by decide))
        have h10 : BxE b.g (.slice b.A b.n b.c) w'' := ⟨hWo.new (hL 7 (by decide)), z3, z2⟩
        have hbel := hWo.bel
        clear hWo hL z2 z3
        simp [wrote, exVals, Act.put]
        obtain ⟨Ao, no, co, rso, Ap, np, cp, rp, g⟩ := b
        dsimp only at hbr hbn z1 h10 ⊢
        have hea := each_new w'' _ _ _ _ _ (hs2'.later hbel (Nat.le_refl _)) HD2.out (by omega)
        rw [HE.out] at hea
        have HEA := Lib.hid hea
        have HBN := Lib.hid hbn
        clear hea hbn
        gi_wp2_with fail
        refine ⟨trivial, (callsIn_wide.2 HEA.out).mono ?_⟩
        rintro e w7 ⟨g5, A5, n5, c5, ys5, rfl, hN5, hg5, hgn, hc5, hs5, hc⟩
        have hgg : g < g5 := Nat.lt_of_lt_of_le h10.2.2 hgn
        replace h10 := h10.later hc
        replace hbr := hbr.later hc (Nat.le_refl _)
        have hbel7 := hbel.trans (hc.mono hbel.size)
        obtain ⟨k0, hk0⟩ := bits_ex E
        have hk1 : k0 ≤ 4096 := Classical.byContradiction fun h => HEL.out ((bits_gt (q := 4096) hk0).1 (by omega))
        have hn5 : n5 ≤ n2 := by
          rw [hs5.len]
          refine hN5.length_le (by decide) ?_
          rw [← HE.out]
          exact Nat.lt_of_lt_of_le (V_lt _ HD2.out) (Nat.pow_le_pow_right b64_pos (by rw [← hs2'.len]; exact Nat.le_refl _))
        have hes := eachX_stops 8 (by decide) g5 g n5 c5 A5 ys5 k0 (by rw [hN5.2.2]; exact hk0) hN5.1 (by omega) (by omega) w7 hg5 hc5 hs5
        rw [hN5.2.2] at hes
        have hMp : 0 < M := Nat.pos_of_ne_zero HM0.out.2
        have hJ0 : ExJ g k0 N E M [] w7 := ⟨Ap, np, cp, rp, 1 % M, h10.1, h10.2.1, h10.2.2, hbr, HBN.out, Nat.mod_lt _ hMp, fun _ => exp_top hk0.1⟩
        have hnm : Nm b64 r (N % M) := HYES.out (by first | rfl | trivial)
        have HES := Lib.hid hes
        have HJ0 := Lib.hid hJ0
        have HNM := Lib.hid hnm
        have HK0 := Lib.hid hk0
        have HHC := Lib.hid hc5
        have HS5 := Lib.hid hs5
        have HMP := Lib.hid hMp
        have HB7 := Lib.hid hbel7
        clear hes hJ0 hnm hk0 hN5 hc5 hs5 hbel hc hbr h10 hMp hbel7
        gi_wp2_with fail
        refine wpIn_rangeFunc_ownG rfl (by omega) (gf := 65) (lb := #[.pointer (some ⟨g5, 0, none⟩)]) rfl trivial (enters_of Tryd.func65 (by kernel_rfl) rfl)
          HES.out KpX.trans (KpX.put (by omega) hg5) (Below.refl _ _) (fun _ => rfl)
          (fun pre W => ExJ g k0 N E M pre W ∧ Below g w7 W)
          (fun _ _ _ => False)
          (OwnFrom.and (Own.from (fun s A B row hs hg hr => by
            obtain ⟨Aq, nq, cq, q, pq, e1, e2, e3, e4, e5, e6, e7⟩ := hs
            exact ⟨Aq, nq, cq, q, pq, cell_kept e1 hg hr, (frozen_kept e1 hg hr).trans e2, Nat.lt_of_lt_of_le e3 hg.size, (e4.kept hg hr).more hg.size, e5, e6, e7⟩) _) (ownFrom_below (by omega) (by omega)))
          (fun _ _ _ _ _ hs _ _ => hs)
          ⟨HJ0.out, Below.refl _ _⟩
          ?a1x ?assign ?body ?done ?stop
        case assign =>
          intro l x W K hK
          gi_wp2
          exact hK
        case body =>
          rintro l pre x W ⟨⟨Aq, nq, cq, q, pq, e1, e2, e3, e4, e5, e6, e7⟩, hBW⟩ hpl
          have hqL : ¬ Lg 4096 pq := fun h => HM0.out.1 (lg_mono h (by omega))
          have hMl : M < b64 ^ n3 := by
            rw [← HM.out, hs3'.len]; exact V_lt _ HD3.out
          have hnq : nq ≤ n3 := by rw [e4.len]; exact e5.length_le (by decide) (Nat.lt_trans e6 hMl)
          have hBW5 : Below W5.heap.size W5 W := HB7.out.trans (hBW.mono z1)
          have hs3W := hs3'.later hBW5 (Nat.le_refl _)
          have c5W := (hBW5.cell (p := ⟨b5, 0, none⟩) h5.2.2).trans h5.1
          have c8W := (hBW5.cell (p := ⟨b8, 0, none⟩) h8.2.2).trans h8.1
          have hmu := mmul_any W _ _ _ _ e4 _ _ _ _ e4 _ _ _ _ hs3W e5.1 e5.1 HD3.out (by omega) (by omega) (by omega) pq pq M e5.2.2 e5.2.2 HM.out
          have HMU := Lib.hid hmu
          have HE5 := Lib.hid e5
          have HE6 := Lib.hid e6
          have HE7 := Lib.hid e7
          have HQL := Lib.hid hqL
          have HML := Lib.hid hMl
          obtain ⟨i, hi⟩ := x
          obtain ⟨bv, hbv⟩ : ∃ bv, E / 2 ^ i % 2 = bv := ⟨_, rfl⟩
          have hb2 : bv = 0 ∨ bv = 1 := by have := Nat.mod_lt (E / 2 ^ i) (show 0 < 2 by decide); omega
          have HBV := Lib.hid hbv
          have hbi : (E : Int) / 2 ^ i % 2 = (bv : Int) := by rw [← hbv]; simp
          rw [hbi]
          clear hbi hmu e5 e6 e7 hqL hMl hbv
          gi_wp2_with fail
          refine ⟨trivial, (CallsIn.inRound l (callsIn_wide.2 HMU.out)).mono ?_⟩
          rintro e w8 ⟨b, Ar, nr, cr, r1, rfl, hok1, hno1, hyes1, hsr1, hb1⟩
          obtain rfl : b = true := hok1.2 ⟨HQL.out, HQL.out, HM0.out.1, HM0.out.2⟩
          have HR1 := Lib.hid (hyes1 rfl)
          have cg := (hb1.cell (p := ⟨g, 0, none⟩) e3).trans e1
          have fg := (hb1.frozen (p := ⟨g, 0, none⟩) e3).trans e2
          have hg5W : g5 < W.heap.size := Nat.lt_of_lt_of_le hg5 hBW.size
          obtain ⟨W9, e9⟩ : ∃ W9, w8.setCell ⟨g, 0, none⟩ (.slice Ar nr cr) = W9 := ⟨_, rfl⟩
          obtain ⟨st9, hz9, hsl9⟩ := exSt hb1 e1 e2 e3 hg5W hgg e9
          have hsr9 := hsl9 _ _ _ _ hsr1
          have HST9 := Lib.hid st9
          clear hok1 hno1 hyes1 hsl9 hsr1 hz9
          have hbit : ∀ (hin : (pre ++ [(⟨i, hi⟩ : Ix k0)]).map (·.1) = downL k0 (pre ++ [(⟨i, hi⟩ : Ix k0)]).length), pre.map (·.1) = downL k0 pre.length ∧ i = k0 - (pre.length + 1) := by
            intro h
            rw [List.length_append, List.length_singleton, downL_succ, List.map_append] at h
            obtain ⟨h1, h2⟩ := List.append_inj' h rfl
            exact ⟨h1, by simp at h2; omega⟩
          have HBIT := Lib.hid hbit
          clear hbit
          rcases hb2 with h0 | h1
          · subst h0
            clear hb1
            gi_wp2_with fail
            refine ⟨HST9.out.kf _, HST9.out.kp _ _ _ _, ⟨Ar, nr, cr, r1, pq * pq % M, HST9.out.cell, HST9.out.fr, HST9.out.lt, hsr9, HR1.out, Nat.mod_lt _ HMP.out, fun hin => ?_⟩, hBW.trans HST9.out.bel⟩
            obtain ⟨h1, h2⟩ := HBIT.out hin
            have h3 := HE7.out h1
            rw [List.length_append, List.length_singleton, ← h2]
            have h4 : k0 - pre.length = i + 1 := by omega
            rw [h4] at h3
            exact exp_zero h3 HBV.out
          · subst h1
            have c5' := (HST9.out.bel.cell (p := ⟨b5, 0, none⟩) (by have := h5.2.2; show b5 < g; omega)).trans c5W
            have c8' := (HST9.out.bel.cell (p := ⟨b8, 0, none⟩) (by have := h8.2.2; show b8 < g; omega)).trans c8W
            have cg9 := HST9.out.cell
            have fg9 := HST9.out.fr
            have hB59 : Below W5.heap.size W5 W9 := hBW5.trans (HST9.out.bel.mono z1)
            have hnr : nr ≤ n3 := by rw [hsr9.len]; exact HR1.out.length_le (by decide) (Nat.lt_trans (Nat.mod_lt _ HMP.out) HML.out)
            have hnb : nb ≤ n3 := by rw [hsr.len]; exact HNM.out.length_le (by decide) (Nat.lt_trans (Nat.mod_lt _ HMP.out) HML.out)
            have hm2 := mmul_any W9 _ _ _ _ hsr9 _ _ _ _ (hsr.later hB59 (Nat.le_refl _)) _ _ _ _ (hs3'.later hB59 (Nat.le_refl _)) HR1.out.1 HNM.out.1 HD3.out (by omega) (by omega) (by omega) _ _ M HR1.out.2.2 HNM.out.2.2 HM.out
            have HM2 := Lib.hid hm2
            clear hm2 hb1
            gi_wp2_with fail
            refine ⟨trivial, (CallsIn.inRound l (callsIn_wide.2 HM2.out)).mono ?_⟩
            rintro e wa ⟨b, As, ns, cs, r2, rfl, hok2, hno2, hyes2, hsr2, hb2⟩
            obtain rfl : b = true := hok2.2 ⟨fun h => HM0.out.1 (lg_mono h (Nat.le_of_lt (Nat.mod_lt _ HMP.out))), fun h => HM0.out.1 (lg_mono h (Nat.le_of_lt (Nat.mod_lt _ HMP.out))), HM0.out.1, HM0.out.2⟩
            have HR2 := Lib.hid (hyes2 rfl)
            have cga := (hb2.cell (p := ⟨g, 0, none⟩) HST9.out.lt).trans cg9
            have fga := (hb2.frozen (p := ⟨g, 0, none⟩) HST9.out.lt).trans fg9
            obtain ⟨Wb, eb⟩ : ∃ Wb, wa.setCell ⟨g, 0, none⟩ (.slice As ns cs) = Wb := ⟨_, rfl⟩
            obtain ⟨stb, hzb, hslb⟩ := exSt hb2 cg9 fg9 HST9.out.lt HST9.out.lt5 hgg eb
            have hsrb := hslb _ _ _ _ hsr2
            have HSTB := Lib.hid stb
            clear hok2 hno2 hyes2 hslb hsr2 hzb hb2
            gi_wp2_with fail
            refine ⟨(HST9.out.kf _).trans (HSTB.out.kf _), (HST9.out.kp _ _ _ _).trans (HSTB.out.kp _ _ _ _), ⟨As, ns, cs, r2, pq * pq % M * (N % M) % M, HSTB.out.cell, HSTB.out.fr, HSTB.out.lt, hsrb, HR2.out, Nat.mod_lt _ HMP.out, fun hin => ?_⟩, hBW.trans (HST9.out.bel.trans HSTB.out.bel)⟩
            obtain ⟨h1, h2⟩ := HBIT.out hin
            have h3 := HE7.out h1
            rw [List.length_append, List.length_singleton, ← h2]
            have h4 : k0 - pre.length = i + 1 := by omega
            rw [h4] at h3
            exact exp_one h3 HBV.out
        case done =>
          rintro D ds W hD hds ⟨⟨Aq, nq, cq, q, pq, e1, e2, e3, e4, e5, e6, e7⟩, hBW⟩ hK
          have hl : ds.length = k0 := by have h := congrArg List.length hds; rwa [List.length_map, downL_length] at h
          have hfin := e7 (by rw [hl]; exact hds)
          rw [hl, Nat.sub_self, Nat.pow_zero, Nat.div_one] at hfin
          have HFIN := Lib.hid hfin
          have HE5 := Lib.hid e5
          clear e7 e5 e6 hfin hl hds
          gi_wp2
          refine ⟨by simp, .inl ⟨_, _, rfl, run_takeDeferred hK, ?_⟩⟩
          have hg := grownBy_putObj' W D (.deferred none)
          have hgr : ∀ r', some D = some r' → ∃ o, W.heap[r']? = some o ∧ o.isCells = false := fun r' e => by cases e; exact ⟨_, hK, rfl⟩
          have hpz : (W.putObj D (.deferred none)).heap.size = W.heap.size := by simp [World.putObj]
          have hsq2 := e4.kept hg hgr
          rw [← hpz] at hsq2
          refine ⟨.tuple #[.slice Aq nq cq, .bool true], ?_, true, _, _, _, q, rfl, ⟨fun _ => ⟨(HOK.out.1 (by first | rfl | trivial)).1, HEL.out, HM0.out.1, HM0.out.2⟩, fun _ => rfl⟩, fun h => (by cases h), fun _ => by rw [← HFIN.out]; exact HE5.out, hsq2, ?_⟩
          · simp [results, Tryd.f13, go_sem]
          · rw [HB5.out]
            have hwl : w7.heap.size ≤ D := hD
            exact (hB.trans (HB7.out.mono (by have := h5.2.2; omega))).trans ((hBW.mono (by have := h5.2.2; omega)).trans (belowK_b (w := w7) (by have := h5.2.2; have := HB7.out.size; omega) _ D _ _ hD hK rfl rfl))
        case stop =>
          rintro D c pre W _ _ h _
          exact h.elim
    · have hnok : ¬ (¬ Lg 4096 N ∧ ¬ Lg 4096 E ∧ ¬ Lg 4096 M ∧ M ≠ 0) := fun h => by
        obtain ⟨x, hx, hlx⟩ := HBT.out.1 rfl
        simp at hx
        subst hx
        exact h.2.1 (HE.out ▸ hlx)
      have HNOK := Lib.hid hnok
      clear hnok
      gi_wp2
      refine ⟨.tuple #[.slice none 0 0, .bool false], ?_, RetM.no HNOK.out ?_⟩
      · simp [results, Tryd.f13, go_sem]
      · rw [HB5.out]; exact hB
end Go.Proofs.YtdcijkjlgkfkdaaDoor

/- modarith: testable, lowZeros. -/
namespace Go.Proofs.YtdcijkjlgkfkdaaDoor
open Go.RowKit

/-- a bool that tells p -/
def RetB (p : Prop) (e : Ending) : Prop := ∃ b, e = .returned (.bool b) ∧ (b = true ↔ p)
theorem lg_pow {q k : Nat} (h : q ≤ k) : Lg q (2 ^ k) := Nat.pow_le_pow_right (by decide) h
/-- the Miller-Rabin test is defined for N -/
def Tst (N : Nat) : Prop := N % 2 = 1 ∧ 2 ≤ N ∧ ¬ Lg 4096 N

set_option maxRecDepth 100000 in
set_option maxHeartbeats 1600000 in
theorem testable_any (w : World) (A : Option Addr) (n c : Nat) (xs : List Nat) (hs : Sl w w.heap.size A n c xs) (hd : Dg b64 xs) (hn : n ≤ 17592186044416) (N : Nat) (hN : V b64 xs = N) :
    Calls Tryd.prog 49 #[.slice A n c] w fun e w' => RetB (Tst N) e ∧ Below w.heap.size w w' := by
  have hbi := bit_any w _ A n c xs hs hd 0 (by decide)
  rw [hN, Nat.pow_zero, Nat.div_one] at hbi
  obtain ⟨bv, hbv⟩ : ∃ bv, N % 2 = bv := ⟨_, rfl⟩
  rw [hbv] at hbi
  have hbi2 : Calls Tryd.prog 55 #[.slice A n c, .int .i64 0] w fun e w' => e = .returned (.int .u64 (bv : Int)) ∧ w = w' := hbi
  have hbs := bits_any w _ A n c xs hs hd hn
  rw [hN] at hbs
  have ht := tl_new w 23 [⟨A, n, c, xs⟩] (by
    intro x hx
    simp at hx
    subst hx
    exact ⟨hs, hd, hn⟩)
  have htl := tooLong_any _ _ 1 _ rfl (by decide) ht
  have hb1 : Below w.heap.size w (w.alloc (.cells #[.slice A n c] 23)) := (Below.refl _ w).alloc (Nat.le_refl _) _
  have hb2 : bv = 0 ∨ bv = 1 := by have := Nat.mod_lt N (show 0 < 2 by decide); omega
  have HBI := Lib.hid hbi2
  have HBS := Lib.hid hbs
  have HTL := Lib.hid htl
  have HN := Lib.hid hN
  have HBV := Lib.hid hbv
  clear hbi hbi2 hbs ht htl hN hbv hs hd
  go_enter Tryd.func49, Tryd.ntmps49
  go_wp2_with fail
  refine HBI.out.mono ?_
  rintro e w1 ⟨rfl, rfl⟩
  rcases hb2 with h0 | h0
  · subst h0
    go_wp2
    go_ret
    exact ⟨⟨_, rfl, ⟨fun h => (by cases h), fun h => by have := HBV.out; have := h.1; omega⟩⟩, Below.refl _ _⟩
  · subst h0
    go_wp2_with fail
    refine HBS.out.mono ?_
    rintro e w1 ⟨kk, rfl, hkk, rfl⟩
    have hgt := (bits_gt (q := 1) hkk).trans lg_one
    have HG := Lib.hid hgt
    clear hgt hkk
    by_cases h1 : 1 < kk
    · have hi : (1 : Int) < (kk : Int) := by omega
      have HH := Lib.hid h1
      clear h1
      go_wp2_with fail
      refine HTL.out.mono ?_
      rintro e w2 ⟨⟨b, rfl, hb⟩, rfl⟩
      have HB := Lib.hid hb
      clear hb
      rcases b with _ | _
      · have hno : ¬ Lg 4096 N := fun h => by
          have := HB.out.2 ⟨⟨A, n, c, xs⟩, by simp, by rw [HN.out]; exact h⟩; cases this
        have HNO := Lib.hid hno
        clear hno
        go_wp2
        go_ret
        exact ⟨⟨_, rfl, ⟨fun _ => ⟨HBV.out, HG.out.1 HH.out, HNO.out⟩, fun _ => rfl⟩⟩, hb1⟩
      · have hlg : Lg 4096 N := by
          obtain ⟨x, hx, hlx⟩ := HB.out.1 rfl
          simp at hx
          subst hx
          exact HN.out ▸ hlx
        have HLG := Lib.hid hlg
        clear hlg
        go_wp2
        go_ret
        exact ⟨⟨_, rfl, ⟨fun h => (by cases h), fun h => absurd HLG.out h.2.2⟩⟩, hb1⟩
    · have hi : ¬ (1 : Int) < (kk : Int) := by omega
      have HH := Lib.hid h1
      clear h1
      go_wp2
      go_ret
      exact ⟨⟨_, rfl, ⟨fun h => (by cases h), fun h => absurd (HG.out.2 h.2.1) HH.out⟩⟩, Below.refl _ _⟩

theorem low_step {N k : Nat} (h : N % 2 ^ k = 0) (hb : N / 2 ^ k % 2 = 0) : N % 2 ^ (k + 1) = 0 := by
  have h1 := Nat.div_add_mod N (2 ^ k)
  have h2 := Nat.div_add_mod (N / 2 ^ k) 2
  rw [hb] at h2
  rw [h] at h1
  have : N = 2 ^ (k + 1) * (N / 2 ^ k / 2) := by
    rw [Nat.pow_succ, Nat.mul_assoc]
    rw [Nat.add_zero] at h2
    rw [h2]
    omega
  rw [this]
  exact Nat.mul_mod_right _ _
theorem low_le {N k : Nat} (h : N % 2 ^ k = 0) (hN : 0 < N) : 2 ^ k ≤ N := Nat.le_of_dvd hN (Nat.dvd_of_mod_eq_zero h)

set_option maxRecDepth 100000 in
set_option maxHeartbeats 1600000 in
theorem lowZeros_any (w : World) (B : Nat) (A : Option Addr) (n c : Nat) (xs : List Nat) (hs : Sl w B A n c xs) (hd : Dg b64 xs) (N : Nat) (hN : V b64 xs = N) (h0 : 0 < N) (hL : ¬ Lg 4096 N) :
    Calls Tryd.prog 51 #[.slice A n c] w fun e w' => (∃ s : Nat, e = .returned (.int .i64 (s : Int)) ∧ N % 2 ^ s = 0 ∧ N / 2 ^ s % 2 = 1 ∧ s < 4096) ∧ w = w' := by
  have HN := Lib.hid hN
  have H0 := Lib.hid h0
  have HL := Lib.hid hL
  have HD := Lib.hid hd
  clear hN h0 hL hd
  go_enter Tryd.func51, Tryd.ntmps51
  go_wp2
  go_loopw [3] (fun i wr => ∃ k : Nat, k < 4096 ∧ i = .int .i64 (k : Nat) ∧ N % 2 ^ k = 0 ∧ wr = w) (fun i _ => 4096 - (intOf i).toNat)
  case atStart => exact ⟨0, by decide, rfl, by rw [Nat.pow_zero, Nat.mod_one], rfl⟩
  case round =>
    obtain ⟨k, hk, rfl, hm, rfl⟩ := hrel
    have hbi := bit_any wr B A n c xs hs HD.out k (by omega)
    rw [HN.out] at hbi
    obtain ⟨bv, hbv⟩ : ∃ bv, N / 2 ^ k % 2 = bv := ⟨_, rfl⟩
    rw [hbv] at hbi
    have hb2 : bv = 0 ∨ bv = 1 := by have := Nat.mod_lt (N / 2 ^ k) (show 0 < 2 by decide); omega
    have HBI := Lib.hid hbi
    have HBV := Lib.hid hbv
    have HMM := Lib.hid hm
    clear hbi hbv hm
    go_wp2_with fail
    refine HBI.out.mono ?_
    rintro e w1 ⟨rfl, rfl⟩
    rcases hb2 with h0 | h0
    · subst h0
      have hm2 := low_step HMM.out HBV.out
      have hk2 : k + 1 < 4096 := by
        apply Classical.byContradiction
        intro hne
        exact HL.out (lg_mono (lg_pow (by omega)) (low_le hm2 H0.out))
      have HM2 := Lib.hid hm2
      clear hm2
      go_wp2
      go_roundw
      case rel => exact ⟨k + 1, hk2, by go_num, HM2.out, by first | rfl | trivial⟩
      case measure => simp [intOf]; omega
    · subst h0
      go_wp2
      go_ret
      exact ⟨⟨k, rfl, HMM.out, HBV.out, hk⟩, rfl⟩
end Go.Proofs.YtdcijkjlgkfkdaaDoor

/- modarith: Strong. -/
namespace Go.Proofs.YtdcijkjlgkfkdaaDoor
open Go.RowKit

/-- M is 2 ^ s times an odd number -/
def Lz (M s : Nat) : Prop := M % 2 ^ s = 0 ∧ M / 2 ^ s % 2 = 1
/-- N passes the test of Miller and Rabin for W -/
def MR (N W : Nat) : Prop :=
  (¬ Tst N ∧ N = 2) ∨ (Tst N ∧ (W % N = 0 ∨ ∃ s, Lz (N - 1) s ∧ ((W % N) ^ ((N - 1) / 2 ^ s) % N = 1 ∨ ∃ i, i < s ∧ (W % N) ^ ((N - 1) / 2 ^ s * 2 ^ i) % N = N - 1)))
theorem Lz.unique {M s t : Nat} (h : Lz M s) (k : Lz M t) : s = t := by
  have aux : ∀ {s t : Nat}, Lz M s → Lz M t → ¬ s < t := by
    intro s t h k hst
    obtain ⟨d, rfl⟩ : ∃ d, t = s + 1 + d := ⟨t - (s + 1), by omega⟩
    have h1 : 2 ^ (s + 1) ∣ M := Nat.dvd_trans (Nat.pow_dvd_pow 2 (Nat.le_add_right _ _)) (Nat.dvd_of_mod_eq_zero k.1)
    obtain ⟨q, hq⟩ := h1
    have h2 := h.2
    rw [hq, Nat.pow_succ, Nat.mul_assoc, Nat.mul_div_cancel_left _ (Nat.pow_pos (by decide)), Nat.mul_mod_right] at h2
    cases h2
  have h1 := aux h k
  have h2 := aux k h
  omega
theorem mr_sq {b d k N : Nat} : b ^ (d * 2 ^ k) % N * (b ^ (d * 2 ^ k) % N) % N = b ^ (d * 2 ^ (k + 1)) % N := by
  rw [← Nat.mul_mod, ← Nat.pow_add, Nat.pow_succ]
  congr 2
  rw [← Nat.mul_assoc]; omega

set_option maxRecDepth 100000 in
set_option maxHeartbeats 4000000 in
theorem strong_any (w : World) (A1 : Option Addr) (n1 c1 : Nat) (xs : List Nat) (hs1 : Sl w w.heap.size A1 n1 c1 xs) (A2 : Option Addr) (n2 c2 : Nat) (ys : List Nat) (hs2 : Sl w w.heap.size A2 n2 c2 ys) (hd1 : Dg b64 xs) (hd2 : Dg b64 ys)
    (hn1 : n1 ≤ 10000000) (hn2 : n2 ≤ 10000000) (N W : Nat) (hN : V b64 xs = N) (hW : V b64 ys = W) :
    Calls Tryd.prog 24 #[.slice A1 n1 c1, .slice A2 n2 c2] w fun e w' => RetB (MR N W) e ∧ Below w.heap.size w w' := by
  have hte := testable_any w _ _ _ _ hs1 hd1 (by omega) N hN
  have HTE := Lib.hid hte
  have HN := Lib.hid hN
  have HW := Lib.hid hW
  have HD1 := Lib.hid hd1
  have HD2 := Lib.hid hd2
  clear hte hN hW hd1 hd2
  go_enter Tryd.func24, Tryd.ntmps24
  go_wp2_with fail
  refine HTE.out.mono ?_
  rintro e w1 ⟨⟨b, rfl, hb⟩, hB⟩
  replace hs1 := hs1.later hB (Nat.le_refl _)
  replace hs2 := hs2.later hB (Nat.le_refl _)
  have HB := Lib.hid hb
  clear hb
  rcases b with _ | _
  · have hnt : ¬ Tst N := fun h => by have := HB.out.2 h; cases this
    have heq : Calls Tryd.prog 50 #[.slice A1 n1 c1, .int .u64 2] w1 fun e w' => (∃ b, e = .returned (.bool b) ∧ (b = true ↔ V b64 xs = 2)) ∧ Below w1.heap.size w1 w' := equals_any w1 _ _ _ _ hs1 HD1.out 2 (by decide)
    rw [HN.out] at heq
    have HEQ := Lib.hid heq
    have HNT := Lib.hid hnt
    clear heq hnt
    go_wp2_with fail
    refine HEQ.out.mono ?_
    rintro e w2 ⟨⟨b, rfl, hb⟩, hB2⟩
    have HB2 := Lib.hid hb
    clear hb
    go_wp2
    go_ret
    refine ⟨⟨b, rfl, HB2.out.trans ⟨fun h => .inl ⟨HNT.out, h⟩, fun h => ?_⟩⟩, hB.trans (hB2.mono hB.size)⟩
    rcases h with h | h
    · exact h.2
    · exact absurd h.1 HNT.out
  · have hT : Tst N := HB.out.1 rfl
    have hN0 : 0 < N := by have := hT.2.1; omega
    have hq := quo_all longQ w1 _ _ _ _ hs2 _ _ _ _ hs1 W N HW.out HN.out HD2.out HD1.out (by omega) hN0
    obtain ⟨bs, hbs⟩ : ∃ bs, W % N = bs := ⟨_, rfl⟩
    have hbl : bs < N := by rw [← hbs]; exact Nat.mod_lt _ hN0
    rw [hbs] at hq
    have HQ := Lib.hid hq
    have HT := Lib.hid hT
    have HBS := Lib.hid hbs
    have HBL := Lib.hid hbl
    have HN0 := Lib.hid hN0
    have hNl : N < b64 ^ n1 := by rw [← HN.out, hs1.len]; exact V_lt _ HD1.out
    have HNL := Lib.hid hNl
    clear hq hT hbs hbl hN0 hs2 hNl
    go_wp2_with fail
    refine HQ.out.mono ?_
    rintro e w2 ⟨lq, Aq, nq, cq, rb, Ab, nb, cb, rfl, _, hsb, hc, _, hrb⟩
    replace hs1 := hs1.later hc (Nat.le_refl _)
    replace hB := hB.trans (hc.mono hB.size)
    clear hc
    have hnb : nb ≤ n1 := by rw [hsb.len]; exact hrb.length_le (by decide) (Nat.lt_trans HBL.out HNL.out)
    have hz := isZero_any w2 _ _ _ _ _ hsb hrb.1 (by omega)
    rw [hrb.2.2] at hz
    have HZ := Lib.hid hz
    have HRB := Lib.hid hrb
    clear hz hrb
    go_wp2_with fail
    refine HZ.out.mono ?_
    rintro e w3 ⟨⟨b, rfl, hb⟩, rfl⟩
    have HBZ := Lib.hid hb
    clear hb
    rcases b with _ | _
    · have hb0 : bs ≠ 0 := fun h => by have := HBZ.out.2 h; cases this
      have ho1 : Calls Tryd.prog 36 #[.int .u64 1] w2 (fun e w' => RetN b64 w2 1 e w') := of_any 1 (by decide) w2
      have HO1 := Lib.hid ho1
      have HB0 := Lib.hid hb0
      clear ho1 hb0
      go_wp2_with fail
      refine HO1.out.mono ?_
      rintro e w3 ⟨os, hos, Ao, no, co, rfl, hso, hc⟩
      replace hs1 := hs1.later hc (Nat.le_refl _)
      replace hsb := hsb.later hc (Nat.le_refl _)
      replace hB := hB.trans (hc.mono hB.size)
      clear hc
      have hsu := lsub_yes w3 _ _ _ _ hs1 _ _ _ _ hso HD1.out hos.1 (by omega) (by rw [hos.2.2, HN.out]; exact HN0.out)
      rw [hos.2.2, HN.out] at hsu
      have HSU := Lib.hid hsu
      clear hsu hos hso
      go_wp2_with fail
      refine HSU.out.mono ?_
      rintro e w4 ⟨la, Al, nl, cl, hla, rfl, hsl, hc⟩
      replace hs1 := hs1.later hc (Nat.le_refl _)
      replace hsb := hsb.later hc (Nat.le_refl _)
      replace hB := hB.trans (hc.mono hB.size)
      clear hc
      have hM0 : 0 < N - 1 := by have := HT.out.2.1; omega
      have hnl : nl ≤ n1 := by rw [hsl.len]; exact hla.length_le (by decide) (Nat.lt_of_le_of_lt (Nat.sub_le _ _) HNL.out)
      have hlz := lowZeros_any w4 _ _ _ _ _ hsl hla.1 (N - 1) hla.2.2 hM0 (fun h => HT.out.2.2 (lg_mono h (Nat.sub_le _ _)))
      have HLZ := Lib.hid hlz
      have HLA := Lib.hid hla
      clear hlz hla hM0
      go_wp2_with fail
      refine HLZ.out.mono ?_
      rintro e w5 ⟨⟨s, rfl, hz1, hz2, hs⟩, rfl⟩
      have hsh := shr_any w4 _ (Nat.le_refl _) _ _ _ _ hsl HLA.out.1 (by omega) s (by omega)
      rw [HLA.out.2.2] at hsh
      have HSH := Lib.hid hsh
      have HLZ2 := Lib.hid (show Lz (N - 1) s from ⟨hz1, hz2⟩)
      clear hsh hz1 hz2
      obtain ⟨d, hdd⟩ : ∃ d, (N - 1) / 2 ^ s = d := ⟨_, rfl⟩
      have HDD := Lib.hid hdd
      clear hdd
      go_wp2_with fail
      refine HSH.out.mono ?_
      rw [HDD.out]
      rintro e w5 ⟨ds, hds, Ad, nd, cd, rfl, hsd, hc⟩
      replace hs1 := hs1.later hc (Nat.le_refl _)
      replace hsb := hsb.later hc (Nat.le_refl _)
      replace hsl := hsl.later hc (Nat.le_refl _)
      replace hB := hB.trans (hc.mono hB.size)
      clear hc
      have hdN : d ≤ N := by rw [← HDD.out]; exact Nat.le_trans (Nat.div_le_self _ _) (Nat.sub_le _ _)
      have hnd : nd ≤ n1 := by rw [hsd.len]; exact hds.length_le (by decide) (Nat.lt_of_le_of_lt hdN HNL.out)
      have hex := exp_any w5 _ _ _ _ hsb _ _ _ _ hsd _ _ _ _ hs1 HRB.out.1 hds.1 HD1.out (by omega) (by omega) (by omega) bs d N HRB.out.2.2 hds.2.2 HN.out
      have hok : ¬ Lg 4096 bs ∧ ¬ Lg 4096 d ∧ ¬ Lg 4096 N ∧ N ≠ 0 :=
        ⟨fun h => HT.out.2.2 (lg_mono h (Nat.le_of_lt HBL.out)), fun h => HT.out.2.2 (lg_mono h hdN), HT.out.2.2, by have := HN0.out; omega⟩
      have HEX := Lib.hid hex
      have HOK := Lib.hid hok
      clear hex hok hdN hnd hds hsd hsb hnb
      go_wp2_with fail
      refine HEX.out.mono ?_
      rintro e w6 ⟨b, Ax, nx, cx, rx, rfl, hok2, _, hyes, hsx, hc⟩
      obtain rfl : b = true := hok2.2 HOK.out
      have hrx := hyes rfl
      replace hs1 := hs1.later hc (Nat.le_refl _)
      replace hsl := hsl.later hc (Nat.le_refl _)
      replace hB := hB.trans (hc.mono hB.size)
      clear hc hok2 hyes
      have heq : Calls Tryd.prog 50 #[.slice Ax nx cx, .int .u64 1] w6 fun e w' => (∃ b, e = .returned (.bool b) ∧ (b = true ↔ V b64 rx = 1)) ∧ Below w6.heap.size w6 w' := equals_any w6 _ _ _ _ hsx hrx.1 1 (by decide)
      rw [hrx.2.2] at heq
      have HEQ := Lib.hid heq
      have HRX := Lib.hid hrx
      clear heq hrx
      go_wp2_with fail
      refine HEQ.out.mono ?_
      rintro e w7 ⟨⟨b, rfl, hb⟩, hc⟩
      replace hs1 := hs1.later hc (Nat.le_refl _)
      replace hsl := hsl.later hc (Nat.le_refl _)
      replace hsx := hsx.later hc (Nat.le_refl _)
      replace hB := hB.trans (hc.mono hB.size)
      have HBE := Lib.hid hb
      clear hc hb
      rcases b with _ | _
      · have hne1 : bs ^ d % N ≠ 1 := fun h => by have := HBE.out.2 h; cases this
        have HNE1 := Lib.hid hne1
        clear hne1
        have hr0 : Nm b64 rx (bs ^ (d * 2 ^ 0) % N) := by rw [Nat.pow_zero, Nat.mul_one]; exact HRX.out
        have hlt : ∀ y : Nat, y % N < b64 ^ n1 := fun y => Nat.lt_trans (Nat.mod_lt _ HN0.out) HNL.out
        have hst : Num w7 n1 (bs ^ (d * 2 ^ 0) % N) (.slice Ax nx cx) := ⟨_, _, _, _, rfl, hsx, hr0, hlt _⟩
        have HST := Lib.hid hst
        have HLT := Lib.hid hlt
        clear hr0 hlt hst hsx
        go_wp2
        go_loopw [11, 47] (fun x i wr => ∃ k : Nat, k ≤ s ∧ i = .int .i64 (k : Nat) ∧ Num wr n1 (bs ^ (d * 2 ^ k) % N) x ∧ (∀ j, j < k → bs ^ (d * 2 ^ j) % N ≠ N - 1) ∧ Below w7.heap.size w7 wr) (fun _ i _ => s - (intOf i).toNat)
        case atStart => exact ⟨0, Nat.zero_le _, rfl, HST.out, fun j h => absurd h (Nat.not_lt_zero _), Below.refl _ _⟩
        case round =>
          obtain ⟨k, hk, rfl, hx, hno, hBr⟩ := hrel
          obtain ⟨px, Ap, np, cp, rfl, hsp, hpn, hpl⟩ := hx.len
          have HNO := Lib.hid hno
          have HPN := Lib.hid hpn
          clear hno hx hpn
          by_cases hks : k = s
          · subst hks
            have hnm : ¬ MR N W := by
              rintro (h | ⟨_, h | ⟨s', hz, h | ⟨i, hi, h⟩⟩⟩)
              · exact h.1 HT.out
              · exact HB0.out (HBS.out.symm.trans h)
              · rw [← HLZ2.out.unique hz, HBS.out, HDD.out] at h
                exact HNE1.out h
              · rw [← HLZ2.out.unique hz, HBS.out, HDD.out] at h
                rw [← HLZ2.out.unique hz] at hi
                exact HNO.out i hi h
            have HNM := Lib.hid hnm
            clear hnm
            go_wp2
            go_ret
            exact ⟨⟨_, rfl, fun h => (by cases h), fun h => absurd h HNM.out⟩, hB.trans (hBr.mono hB.size)⟩
          · have hki : (k : Int) < s := by omega
            have hcm := lcmp_any wr _ _ _ _ hsp _ _ _ _ (hsl.later hBr (Nat.le_refl _)) HPN.out.1 HLA.out.1
            rw [HPN.out.2.2, HLA.out.2.2] at hcm
            obtain ⟨cv, hcv⟩ : ∃ cv, ncmp (bs ^ (d * 2 ^ k) % N) (N - 1) = cv := ⟨_, rfl⟩
            rw [hcv] at hcm
            have HCM := Lib.hid hcm
            have HCV := Lib.hid hcv
            clear hcm hcv
            by_cases he : bs ^ (d * 2 ^ k) % N = N - 1
            · have hc0 : cv = 0 := by rw [← HCV.out, he, ncmp_eq]
              subst hc0
              have HE := Lib.hid he
              clear he
              go_wp2_with fail
              refine HCM.out.mono ?_
              rintro e w8 ⟨rfl, hc⟩
              go_wp2
              go_ret
              refine ⟨⟨_, rfl, fun _ => .inr ⟨HT.out, .inr ⟨s, HLZ2.out, .inr ⟨k, by omega, ?_⟩⟩⟩, fun _ => rfl⟩, hB.trans ((hBr.trans (hc.mono hBr.size)).mono hB.size)⟩
              rw [HBS.out, HDD.out]; exact HE.out
            · have hc0 : ¬ cv = 0 := by
                intro h
                have h2 := ncmp_ne he
                rw [HCV.out, h] at h2
                cases h2
              have HE := Lib.hid he
              clear he
              go_wp2_with fail
              refine HCM.out.mono ?_
              rintro e w8 ⟨rfl, hc⟩
              have hs1r := hs1.later (hBr.trans (hc.mono hBr.size)) (Nat.le_refl _)
              replace hsp := hsp.later hc (Nat.le_refl _)
              replace hBr := hBr.trans (hc.mono hBr.size)
              clear hc
              have hmu := mmul_any w8 _ _ _ _ hsp _ _ _ _ hsp _ _ _ _ hs1r HPN.out.1 HPN.out.1 HD1.out (by omega) (by omega) (by omega) _ _ N HPN.out.2.2 HPN.out.2.2 HN.out
              have hxl : ¬ Lg 4096 (bs ^ (d * 2 ^ k) % N) := fun h => HT.out.2.2 (lg_mono h (Nat.le_of_lt (Nat.mod_lt _ HN0.out)))
              have HMU := Lib.hid hmu
              have HXL := Lib.hid hxl
              clear hmu hxl
              go_wp2_with fail
              refine HMU.out.mono ?_
              rintro e w9 ⟨b, Ay, ny', cy, ry, rfl, hok3, _, hyes3, hsy, hc⟩
              obtain rfl : b = true := hok3.2 ⟨HXL.out, HXL.out, HT.out.2.2, by have := HN0.out; omega⟩
              have hry := hyes3 rfl
              rw [mr_sq] at hry
              have HRY := Lib.hid hry
              replace hBr := hBr.trans (hc.mono hBr.size)
              clear hok3 hyes3 hry hc
              go_wp2
              go_roundw
              case rel =>
                refine ⟨k + 1, by omega, by go_num, ⟨_, _, _, _, rfl, hsy, HRY.out, HLT.out _⟩, fun j hj => ?_, hBr⟩
                rcases Nat.lt_or_ge j k with h | h
                · exact HNO.out j h
                · obtain rfl : j = k := by omega
                  exact HE.out
              case measure => simp [intOf]; omega
      · have h1 : bs ^ d % N = 1 := HBE.out.1 rfl
        have H1 := Lib.hid h1
        clear h1
        go_wp2
        go_ret
        refine ⟨⟨_, rfl, fun _ => .inr ⟨HT.out, .inr ⟨s, HLZ2.out, .inl ?_⟩⟩, fun _ => rfl⟩, hB⟩
        rw [HBS.out, HDD.out]; exact H1.out
    · have h0 : bs = 0 := HBZ.out.1 rfl
      have H0 := Lib.hid h0
      clear h0
      go_wp2
      go_ret
      exact ⟨⟨_, rfl, fun _ => .inr ⟨HT.out, .inl (HBS.out.trans H0.out)⟩, fun _ => rfl⟩, hB⟩
end Go.Proofs.YtdcijkjlgkfkdaaDoor

/- A range over an iterator that makes what it hands out: of each value that comes the body is told a fact R about memory. -/
namespace Go.Proofs.YtdcijkjlgkfkdaaDoor
open Go.RowKit Go.Shelf

/-- the iterator's word: ahead of a round R holds of what is handed out -/
def SeqR {α : Type} (F : Fence) (n : Nat) (P : Program) (g : Nat) (lb : Array Value) (enc : α → Array Value) (R : α → World → Prop) (Kp : World → World → Prop) (S Sp : List α → Prop) (N : Nat) (w : World) : Prop :=
  ∀ (l : Nat) (J Jx : List α → World → Prop) (W : World), Below w.heap.size w W → AbidesFrom W.heap.size J → AbidesFrom W.heap.size Jx →
    (∀ pre x V, J pre V → R x V → pre.length < N → YieldAt F (n - 1) P l (enc x) V fun e V' => (e = .returned (.bool true) ∧ J (pre ++ [x]) V' ∧ Kp V V') ∨ (e = .returned (.bool false) ∧ Jx (pre ++ [x]) V')) →
    J [] W → CallsIn F n P g (#[.func (.yield l) #[] #[]] ++ lb) W fun e W' => (∃ v, e = .returned v) ∧ ((∃ xs, S xs ∧ J xs W') ∨ (∃ pre, Sp pre ∧ Jx pre W'))

/-- the loop's own two blocks -/
structure TwoBl (b : Nat) (r : Loop) (W : World) : Prop where
  lrec : W.heap[b + 1]? = some (.loop r)
  dfr : W.heap[b]? = some (.deferred (some []))
theorem TwoBl.grown {b : Nat} {r : Loop} {W W' : World} {row : Option Nat} (h : TwoBl b r W) (hg : W.grownBy W' row) (hr : ∀ k, row = some k → ∃ o : Obj, W.heap[k]? = some o ∧ o.isWalk = true) : TwoBl b r W' := by
  have go : ∀ (k : Nat) (o : Obj), W.heap[k]? = some o → o.isWalk = false → W'.heap[k]? = some o := fun k o hk ho => by
    refine (hg.block k (Array.getElem?_eq_some_iff.1 hk).1 fun e => ?_).trans hk
    obtain ⟨o2, h2, hw⟩ := hr k e.symm
    rw [hk] at h2
    cases h2
    rw [ho] at hw
    cases hw
  exact ⟨go _ _ h.lrec rfl, go _ _ h.dfr rfl⟩
theorem TwoBl.put {b : Nat} {r : Loop} {W : World} (h : TwoBl b r W) (r' : Loop) : TwoBl b r' (W.putObj (b + 1) (.loop r')) :=
  ⟨World.putObj_heap_same (Array.getElem?_eq_some_iff.1 h.lrec).1, (World.putObj_heap_other (by omega)).trans h.dfr⟩
theorem TwoBl.kept {b : Nat} {r : Loop} {W W' : World} (h : TwoBl b r W) (hk : KeepsFrom b W W') : TwoBl b r W' :=
  ⟨hk.same _ _ (Nat.le_succ _) h.lrec rfl, hk.same _ _ (Nat.le_refl _) h.dfr rfl⟩

variable {F : Fence} {n : Nat} {P : Program}

theorem wpIn_rangeR {α : Type} {g : Operand} {ps : Array Tmp} {assign body : Code} {Q : Exit → Act → World → Prop} {a : Act} {w : World}
    (hro : F.round = none) (h1 : 1 ≤ n) {gf : Nat} {lb : Array Value} (hg : a.eval g = .func (.func gf) #[] lb) (hFg : F.fn gf) (eg : ∀ args w, (callFunc gf args).run P w = .ok (.enter gf args) w)
    {enc : α → Array Value} {R : α → World → Prop} {Kp : World → World → Prop} {S Sp : List α → Prop} {N : Nat} (hseq : SeqR F (n - 1) P gf lb enc R Kp S Sp N w)
    (hKt : ∀ {A B C : World}, Kp A B → Kp B C → Kp A C) (hKb : ∀ (W : World) (l : Nat) (o o' : Obj), w.heap.size ≤ l → W.heap[l]? = some o → o.isCells = false → o.isWalk = false → Kp W (W.putObj l o')) (hps : ∀ x, (enc x).size = ps.size)
    (I : List α → World → Prop) (Ix : Code → List α → World → Prop) (hI : OwnFrom w.heap.size I) (hIx : ∀ c, OwnFrom w.heap.size (Ix c)) (hR : OwnFrom w.heap.size R) (h0 : I [] w) (a₁ : α → Act)
    (hassign : ∀ (l : Nat) (x : α) (W : World) (K : Act → World → Prop), K (a₁ x) W →
      assign.wpIn (F.inRound l) (n - 1 - 1) P (Exit.then K (fun _ _ _ => False)) { tmps := (ps.zip (enc x)).foldl (fun t (p, v) => t.setIfInBounds p v) a.tmps, defers := [] } W)
    (hbody : ∀ (l : Nat) (pre : List α) (x : α) (W : World), I pre W → R x W → pre.length < N → body.wpIn (F.inRound l) (n - 1 - 1) P (ownPostG w.heap.size Kp I Ix (pre ++ [x]) W) (a₁ x) W)
    (hdone : ∀ (D : Nat) (xs : List α) (W : World), w.heap.size ≤ D → S xs → I xs W → W.heap[D]? = some (.deferred (some [])) → Q .normal { a with defers := { target := .collected D, args := #[] } :: a.defers } W)
    (hstop : ∀ (D : Nat) (c : Code) (pre : List α) (W : World), w.heap.size ≤ D → Sp pre → Ix c pre W → W.heap[D]? = some (.deferred (some [])) → c.wpIn F n P Q { a with defers := { target := .collected D, args := #[] } :: a.defers } W) :
    (Code.rangeFunc g ps assign body).wpIn F n P Q a w := by
  refine wpIn_rangeFunc fun fn hfn => ?_
  rw [hro]
  obtain ⟨b, hb⟩ : ∃ b, w.heap.size = b := ⟨_, rfl⟩
  let lp : LoopState → Option Code → Loop := fun st pe => { state := st, pending := pe, fn, tmps := a.tmps, params := ps, assign, body, defers := b }
  let V := (w.alloc (.deferred (some []))).alloc (.loop (lp .ready none))
  have hV : TwoBl b (lp .ready none) V := by
    refine ⟨?_, ?_⟩
    · have h := World.alloc_heap_new (w.alloc (.deferred (some []))) (.loop (lp .ready none))
      rwa [World.size_alloc, hb] at h
    · rw [← hb]
      exact (Below.heap_alloc (w.alloc (.deferred (some []))) _ _ (by simp)).trans (World.alloc_heap_new w _)
  have hIV : I [] V := hI.alloc _ (hI.alloc _ h0)
  have hbel : Below w.heap.size w V := ((Below.refl _ w).alloc (Nat.le_refl _) _).alloc (by simp) _
  have hsz : w.heap.size ≤ V.heap.size := hbel.size
  have wide : ∀ {A : World} {row : Option Nat}, (∀ r, row = some r → V.heap.size ≤ r ∧ ∃ o : Obj, A.heap[r]? = some o ∧ o.isWalk = true) → ∀ r, row = some r → w.heap.size ≤ r ∧ ∃ o : Obj, A.heap[r]? = some o ∧ o.isCells = false := fun h r e => by
    obtain ⟨h1, o, ho, hw⟩ := h r e
    exact ⟨Nat.le_trans hsz h1, o, ho, Obj.not_cells_of_walk hw⟩
  have hent := run_enterLoop_outer (P := P) (w := w) fn a.tmps ps assign body
  rw [hb] at hent
  refine ⟨b + 1, [{ target := .collected b, args := #[] }], V, { target := .fn (.func gf) lb, args := #[.func (.yield (b + 1)) #[] #[]] }, V, gf, #[.func (.yield (b + 1)) #[] #[]] ++ lb, V, hent, ?_, ?_, ?_, fun _ => h1, ?_⟩
  · simp only [resolve, hg]
    simp [go_sem]
  · intro f' hf'
    simp [Target.leads] at hf'
    exact hf' ▸ hFg
  · simp [invoke, go_sem, eg]
  have hcall := hseq (b + 1) (fun pre W => I pre W ∧ TwoBl b (lp .ready none) W) (fun pre W => ∃ c, Ix c pre W ∧ TwoBl b (lp .done (some c)) W) V hbel
    (fun s A B row hs hg' hr => ⟨hI s A B row hs.1 hg' (wide hr), hs.2.grown hg' fun k e => (hr k e).2⟩)
    (fun s A B row hs hg' hr => by
      obtain ⟨c, h1, h2⟩ := hs
      exact ⟨c, hIx c s A B row h1 hg' (wide hr), h2.grown hg' fun k e => (hr k e).2⟩)
    (by
      rintro pre x W ⟨hi, ht⟩ hx hlen
      refine ⟨fn, _, assign, body, run_yield (P := P) (args := enc x) ht.lrec (hps x), roundIn_of_wpIn hfn (hassign _ x W _ ⟨_, run_beginRound ht.lrec rfl, ?_⟩)⟩
      have hle : w.heap.size ≤ b + 1 := by omega
      have hbusy := ht.put { lp .ready none with state := .busy }
      have hkb : Kp W (W.putObj (b + 1) (.loop { lp .ready none with state := .busy })) := hKb _ _ _ _ hle ht.lrec rfl rfl
      refine wpIn_mono (hbody (b + 1) pre x _ (hI.putObj _ hi hle ht.lrec rfl) (hR.putObj _ hx hle ht.lrec rfl) hlen) ?_
      have leave : ∀ (c : Code) (X : World), KeepsFrom w.heap.size (W.putObj (b + 1) (.loop { lp .ready none with state := .busy })) X → Ix c (pre ++ [x]) X →
          (Instr.endRound (b + 1) (some c)).run P X = .ok (.bool false) (X.putObj (b + 1) (.loop (lp .done (some c)))) ∧ ∃ c', Ix c' (pre ++ [x]) (X.putObj (b + 1) (.loop (lp .done (some c)))) ∧ TwoBl b (lp .done (some c')) (X.putObj (b + 1) (.loop (lp .done (some c)))) := fun c X hk hi3 => by
        have ht3 := hbusy.kept (hb ▸ hk)
        exact ⟨run_endRound (P := P) (some c) ht3.lrec, c, (hIx c).putObj _ hi3 hle ht3.lrec rfl, ht3.put _⟩
      rintro e a3 X hp
      cases e with
      | normal =>
        obtain ⟨hk, hkp, hi3⟩ := hp
        have ht3 := hbusy.kept (hb ▸ hk)
        exact ⟨_, _, run_endRound (P := P) none ht3.lrec, .inl ⟨rfl, ⟨hI.putObj _ hi3 hle ht3.lrec rfl, ht3.put _⟩, hKt (hKt hkb hkp) (hKb _ _ _ _ hle ht3.lrec rfl rfl)⟩⟩
      | ret => exact ⟨_, _, (leave _ X hp.1 hp.2).1, .inr ⟨rfl, (leave _ X hp.1 hp.2).2⟩⟩
      | exit id => exact ⟨_, _, (leave _ X hp.1 hp.2).1, .inr ⟨rfl, (leave _ X hp.1 hp.2).2⟩⟩
      | goto t => exact ⟨_, _, (leave _ X hp.1 hp.2).1, .inr ⟨rfl, (leave _ X hp.1 hp.2).2⟩⟩
      | panic ch => exact hp.elim
      | outgrown => exact hp.elim) ⟨hIV, hV⟩
  refine hcall.mono ?_
  have hle : w.heap.size ≤ b + 1 := by omega
  rintro e X ⟨⟨v, rfl⟩, (⟨xs, hS, hi, ht⟩ | ⟨pre, hSp, c, hi, ht⟩)⟩
  · exact ⟨none, _, run_endLoop (P := P) ht.lrec (by intro h; cases h), hdone b xs _ (by omega) hS (hI.putObj _ hi hle ht.lrec rfl) ((World.putObj_heap_other (by omega)).trans ht.dfr)⟩
  · exact ⟨some c, _, run_endLoop (P := P) ht.lrec (by intro h; cases h), hstop b c pre _ (by omega) hSp ((hIx c).putObj _ hi hle ht.lrec rfl) ((World.putObj_heap_other (by omega)).trans ht.dfr)⟩
end Go.Proofs.YtdcijkjlgkfkdaaDoor

/- modarith: Few and its iterator. -/
namespace Go.Proofs.YtdcijkjlgkfkdaaDoor
open Go.RowKit Go.Shelf
attribute [local go_sem] Oper.semAt_some

def fewL : List Nat := [2, 3, 5, 7, 11, 13, 17, 19, 23, 29, 31, 37]
/-- the variable few holds its numbers -/
def FewG (w : World) : Prop := 0 < w.heap.size ∧ ∀ k x : Nat, fewL[k]? = some x → w.cell? ⟨0, k, none⟩ = some (.int .u64 (x : Int))
theorem FewG.later {w w' : World} (h : FewG w) (hb : Below w.heap.size w w') : FewG w' := ⟨Nat.lt_of_lt_of_le h.1 hb.size, fun k x hx => (hb.cell (p := ⟨0, k, none⟩) h.1).trans (h.2 k x hx)⟩

/-- what Few hands out: the number's place, and the slice that holds it -/
structure FewX where
  i : Nat
  hi : i < 12
  A : Option Addr
  n : Nat
  c : Nat
abbrev encF : FewX → Array Value := fun x => #[.slice x.A x.n x.c]
def FewR (x : FewX) (W : World) : Prop := ∃ xs, Sl W W.heap.size x.A x.n x.c xs ∧ Nm b64 xs (fewL.getD x.i 0)
theorem FewR.own (B : Nat) : OwnFrom B FewR := fun s W W' row hs hg hr => by
  obtain ⟨xs, h1, h2⟩ := hs
  exact ⟨xs, (h1.kept hg (fun r e => (hr r e).2)).more hg.size, h2⟩

theorem run_index12 (arr : Array Value) (k : Nat) (v : Value) (hk : (k : Int) < 12) (hv : arr[k]? = some v) (w : World) :
    (Instr.index 69 (.agg arr) (.int .i64 (k : Int))).run Tryd.prog w = .ok v w := by
  have h0 : (0 : Int) ≤ k := by omega
  have h1 : ¬ 12 ≤ k := by omega
  simp [Instr.index, run_underlying Tryd.underlying69, asIntOf, part, h0, h1, hv, go_sem]
theorem grown_none {w w' : World} (h : Below w.heap.size w w') : w.grownBy w' none := ⟨h.os, h.tape, h.output, h.size, fun i hi _ => h.block i hi⟩

set_option maxRecDepth 100000 in
set_option maxHeartbeats 2000000 in
theorem few1_in (nn : Nat) (hn : 1 ≤ nn) (w : World) (hG : FewG w) : SeqR Fence.wide nn Tryd.prog 59 #[] encF FewR (fun _ _ => True) (fun ys => ys.map (·.i) = List.range 12) (fun pre => ∃ k, k ≤ 12 ∧ pre.map (·.i) = List.range k) 12 w := by
  intro l J Jx W hW hJ hJx hY h0
  have hgW := hG.later hW
  have g0 := hgW.2 0 2 rfl
  have g1 := hgW.2 1 3 rfl
  have g2 := hgW.2 2 5 rfl
  have g3 := hgW.2 3 7 rfl
  have g4 := hgW.2 4 11 rfl
  have g5 := hgW.2 5 13 rfl
  have g6 := hgW.2 6 17 rfl
  have g7 := hgW.2 7 19 rfl
  have g8 := hgW.2 8 23 rfl
  have g9 := hgW.2 9 29 rfl
  have g10 := hgW.2 10 31 rfl
  have g11 := hgW.2 11 37 rfl
  clear hgW
  refine callsIn_of_wp Tryd.func59 rfl trivial ?_ rfl
  simp only [Tryd.ntmps59, List.size_toArray, List.length_cons, List.length_nil, Nat.reduceAdd, Nat.reduceSub, Array.replicate_succ, Array.replicate_zero, List.push_toArray, List.append_toArray, List.nil_append, List.cons_append]
  gi_wp2
  obtain ⟨arr, harr⟩ : ∃ arr : Array Value, (fewL.map U).toArray = arr := ⟨_, rfl⟩
  have harr2 := harr
  simp only [fewL, List.map_cons, List.map_nil, U] at harr2
  rw [show (#[Value.int IntKind.u64 2, Value.int IntKind.u64 3, Value.int IntKind.u64 5, Value.int IntKind.u64 7,
              Value.int IntKind.u64 11, Value.int IntKind.u64 13, Value.int IntKind.u64 17, Value.int IntKind.u64 19,
              Value.int IntKind.u64 23, Value.int IntKind.u64 29, Value.int IntKind.u64 31, Value.int IntKind.u64 37] : Array Value) = arr from harr2]
  have hsz : arr.size = 12 := by rw [← harr]; rfl
  have hat : ∀ k, k < 12 → arr[k]? = some (.int .u64 ((fewL.getD k 0 : Nat) : Int)) := fun k hk => by
    rw [← harr]
    simp only [List.getElem?_toArray, List.getElem?_map, List.getD_eq_getElem?_getD]
    rw [List.getElem?_eq_getElem (show k < fewL.length from hk)]
    rfl
  clear harr harr2 g0 g1 g2 g3 g4 g5 g6 g7 g8 g9 g10 g11
  gi_loopw [5] (fun i wr => ∃ (k : Nat) (pre : List FewX), k ≤ 12 ∧ i = .int .i64 (k : Int) ∧ pre.map (·.i) = List.range k ∧ J pre wr) (fun i _ => (12 - intOf i).toNat)
  case atStart => exact ⟨0, [], by decide, rfl, rfl, h0⟩
  case round =>
    obtain ⟨k, pre, hk, rfl, hpre, hJs⟩ := hrel
    have HP := Lib.hid hpre
    clear hpre
    by_cases hk2 : k = 12
    · subst hk2
      gi_wp2
      go_end0
      exact ⟨⟨_, rfl⟩, .inl ⟨pre, HP.out, hJs⟩⟩
    · have hki : (k : Int) < 12 := by omega
      have hak := hat k (by omega)
      obtain ⟨x, hx⟩ : ∃ x, fewL.getD k 0 = x := ⟨_, rfl⟩
      rw [hx] at hak
      have hix := run_index12 arr k _ hki hak wr
      have hxl : x ≤ 37 := by
        rw [← hx, List.getD_eq_getElem?_getD, List.getElem?_eq_getElem (show k < fewL.length from by show k < 12; omega)]
        have := List.getElem_mem (show k < fewL.length from by show k < 12; omega)
        revert this
        generalize fewL[k]'(by show k < 12; omega) = y
        intro h
        simp [fewL] at h
        simp only [Option.getD_some]
        omega
      have hof : Calls Tryd.prog 36 #[.int .u64 (x : Int)] wr (fun e w' => RetN b64 wr x e w') := of_any x (Nat.lt_of_le_of_lt hxl (by decide)) wr
      have HX := Lib.hid hx
      have HOF := Lib.hid hof
      clear hx hat hak hof
      gi_wp2_with fail
      refine ⟨trivial, (callsIn_wide.2 HOF.out).mono ?_⟩
      rintro e w1 ⟨rs, hrs, Ar, nr, cr, rfl, hsr, hb⟩
      have hJ1 := hJ pre wr w1 none hJs (grown_none hb) (fun r e => by cases e)
      have hpl : pre.length = k := by have := congrArg List.length HP.out; simpa using this
      obtain ⟨fn, tmps, assign, body, hy, hRd⟩ := hY pre ⟨k, by omega, Ar, nr, cr⟩ w1 hJ1 ⟨rs, hsr, by rw [HX.out]; exact hrs⟩ (by omega)
      dsimp only [encF] at hy
      clear hY hix hb hJ1 hsr hrs
      gi_wp2
      refine hRd.mono ?_
      rintro e W3 (⟨rfl, hJ3, _⟩ | ⟨rfl, hJx3⟩)
      · gi_wp2
        go_roundw
        case rel => exact ⟨k + 1, pre ++ [⟨k, by omega, Ar, nr, cr⟩], by omega, by go_num, by rw [List.map_append, HP.out, List.range_succ]; rfl, hJ3⟩
        case measure => simp [intOf]; omega
      · gi_wp2
        refine bodyPost_ret (results_none rfl _ _ _) rfl ?_
        exact ⟨⟨_, rfl⟩, .inr ⟨_, ⟨k + 1, by omega, by rw [List.map_append, HP.out, List.range_succ]; rfl⟩, hJx3⟩⟩
end Go.Proofs.YtdcijkjlgkfkdaaDoor

/- From the row's table to the walk's fact. -/
namespace Go.Proofs.YtdcijkjlgkfkdaaDoor
open Go.RowKit

theorem fewG_of {W : World} (t : Lib.TabIs Tryd.prog W "bailey/modarith.few" .u64 [2, 3, 5, 7, 11, 13, 17, 19, 23, 29, 31, 37]) (g : Tryd.prog.globalNamed "bailey/modarith.few" = some 0) : FewG W := by
  have hc := fun i (hi : i < 12) => t.cell g i hi
  refine ⟨?_, fun k x hx => ?_⟩
  · have h := hc 0 (by decide)
    exact World.block_lt_of_cell? W _ h
  · have hk : k < 12 := by
      have := (List.getElem?_eq_some_iff.1 hx).1
      exact this
    rw [hc k hk]
    have : ∀ i : Fin 12, ([2, 3, 5, 7, 11, 13, 17, 19, 23, 29, 31, 37] : List Int).getD i.1 0 = ((fewL.getD i.1 0 : Nat) : Int) := by decide
    rw [this ⟨k, hk⟩, List.getD_eq_getElem?_getD, hx]
    rfl
end Go.Proofs.YtdcijkjlgkfkdaaDoor

/- modarith: hasSmallFactor. -/
namespace Go.Proofs.YtdcijkjlgkfkdaaDoor
open Go.RowKit Go.Shelf
attribute [local go_sem] Oper.semAt_some

set_option maxHeartbeats 400000 in
theorem mfew_any (w : World) : Calls Tryd.prog 29 #[] w fun e w' => e = .returned (.func (.func 59) #[] #[]) ∧ w = w' := by
  go_enter Tryd.func29, Tryd.ntmps29
  go_wp2
  go_ret
  exact ⟨rfl, rfl⟩

/-- the place i of the small primes divides N and is not N -/
def Sf (N i : Nat) : Prop := N % fewL.getD i 0 = 0 ∧ N ≠ fewL.getD i 0
def HasSmall (N : Nat) : Prop := ∃ i, i < 12 ∧ Sf N i
theorem fewL_pos {i : Nat} (h : i < 12) : 0 < fewL.getD i 0 ∧ fewL.getD i 0 ≤ 37 := by
  have : ∀ i : Fin 12, 0 < fewL.getD i.1 0 ∧ fewL.getD i.1 0 ≤ 37 := by decide
  exact this ⟨i, h⟩
def SfNo (N : Nat) (pre : List FewX) : Prop := pre.map (·.i) = List.range pre.length → ∀ i, i < pre.length → ¬ Sf N i
/-- left with yes -/
structure SfX (w : World) (b1 b2 : Nat) (N : Nat) (W : World) : Prop where
  bel : Below b1 w W
  c2 : W.cell? ⟨b2, 0, none⟩ = some (.bool true)
  yes : HasSmall N

set_option maxRecDepth 100000 in
set_option maxHeartbeats 4000000 in
theorem hasSmall_any (w : World) (hG : FewG w) (A : Option Addr) (n c : Nat) (xs : List Nat) (hs : Sl w w.heap.size A n c xs) (hd : Dg b64 xs) (hn : n ≤ 10000000) (N : Nat) (hN : V b64 xs = N) :
    Calls Tryd.prog 75 #[.slice A n c] w fun e w' => RetB (HasSmall N) e ∧ Below w.heap.size w w' := by
  obtain ⟨W1, e1, hB1, c1, f1, s1⟩ := newboxE w 23 (.slice A n c)
  obtain ⟨W2, e2, hB2, c2, f2, s2⟩ := newboxE W1 4 (.bool false)
  obtain ⟨b1, hb1⟩ : ∃ b, w.heap.size = b := ⟨_, rfl⟩
  obtain ⟨b2, hb2⟩ : ∃ b, W1.heap.size = b := ⟨_, rfl⟩
  have h1 : BxE b1 (.slice A n c) W1 := ⟨hb1 ▸ c1, hb1 ▸ f1, by omega⟩
  have h2 : BxE b2 (.bool false) W2 := ⟨hb2 ▸ c2, hb2 ▸ f2, by omega⟩
  replace h1 := h1.later hB2
  have hB : Below b1 w W2 := by rw [← hb1]; exact hB1.trans (hB2.mono hB1.size)
  have hG2 : FewG W2 := (hG.later hB1).later hB2
  have hs2 := (hs.later hB1 (Nat.le_refl _)).later hB2 (Nat.le_refl _)
  have h12 : b1 < b2 := by omega
  have hf := mfew_any W2
  have HF := Lib.hid hf
  have HB1 := Lib.hid hb1
  have hB' := Lib.hid (show b1 ≤ W2.heap.size from Nat.le_of_lt h1.2.2)
  have HD := Lib.hid hd
  have HN := Lib.hid hN
  have HG := Lib.hid hG2
  clear hf hd hN hG hG2 hB1 hB2 c1 f1 s1 c2 f2 s2 hs
  refine (callsIn_wide (n := 9)).1 ?_
  refine callsIn_of_wp_marks Tryd.func75 rfl trivial ?_ rfl
  simp only [Tryd.ntmps75, List.size_toArray, List.length_cons, List.length_nil, Nat.reduceAdd, Nat.reduceSub, Array.replicate_succ, Array.replicate_zero, List.push_toArray, List.append_toArray, List.nil_append, List.cons_append]
  gi_wp2_with fail
  refine ⟨trivial, (callsIn_wide.2 HF.out).mono ?_⟩
  rintro e w3 ⟨rfl, rfl⟩
  have hseq := few1_in 8 (by decide) W2 HG.out
  have HSEQ := Lib.hid hseq
  clear hseq e1 e2 hb1 hb2
  gi_wp2_with fail
  refine wpIn_rangeR rfl (by decide) (gf := 59) (lb := #[]) rfl trivial (enters_of Tryd.func59 (by kernel_rfl) rfl)
    HSEQ.out (fun _ _ => trivial) (fun _ _ _ _ _ _ _ _ => trivial) (fun _ => rfl)
    (fun pre W => Below W2.heap.size W2 W ∧ SfNo N pre)
    (fun k _ W => k = .ret ∧ SfX w b1 b2 N W)
    (OwnFrom.and (ownFrom_below (Nat.le_refl _) (Nat.le_refl _)) (ownFrom_pure _ _)) ?hIx (FewR.own _) ⟨Below.refl _ _, fun _ i hi => absurd hi (Nat.not_lt_zero _)⟩ ?a1x ?assign ?body ?done ?stop
  case hIx =>
    intro k s X Y row hs hg hr
    obtain ⟨rfl, h1', h2', h3⟩ := hs
    exact ⟨rfl, ⟨h1'.grown hg (by have := h1'.size; have := HB1.out; omega) (fun r e => by have := (hr r e).1; have := h1.2.2; omega), cell_kept h2' hg (fun r e => (hr r e).2), h3⟩⟩
  case assign =>
    intro l x W K hK
    gi_wp2
    exact hK
  case body =>
    rintro l pre x W ⟨hBW, hno⟩ ⟨rs, hsr, hrn⟩ hpl
    have c1W := (hBW.cell (p := ⟨b1, 0, none⟩) h1.2.2).trans h1.1
    have c2W := (hBW.cell (p := ⟨b2, 0, none⟩) h2.2.2).trans h2.1
    have f2W := (hBW.frozen (p := ⟨b2, 0, none⟩) h2.2.2).trans h2.2.1
    have hsW := hs2.later hBW (Nat.le_refl _)
    obtain ⟨p, hp⟩ : ∃ p, fewL.getD x.i 0 = p := ⟨_, rfl⟩
    rw [hp] at hrn
    have hpp := fewL_pos x.hi
    rw [hp] at hpp
    have hq := quo_all longQ W _ _ _ _ hsW _ _ _ _ hsr N p HN.out hrn.2.2 HD.out hrn.1 (by omega) hpp.1
    have HQ := Lib.hid hq
    have HP := Lib.hid hp
    have HRN := Lib.hid hrn
    have HNO := Lib.hid hno
    have HPP := Lib.hid hpp
    clear hq hp hrn hno hpp
    gi_wp2_with fail
    refine ⟨trivial, (CallsIn.inRound l (callsIn_wide.2 HQ.out)).mono ?_⟩
    rintro e w4 ⟨lq, Aq, nq, cq, rb, Ab, nb, cb, rfl, _, hsb, hb4, _, hrb⟩
    have hnb : nb ≤ 1 := by
      rw [hsb.len]
      exact hrb.length_le (by decide) (Nat.lt_of_lt_of_le (Nat.mod_lt _ HPP.out.1) (Nat.le_trans HPP.out.2 (by decide)))
    have hz := isZero_any w4 _ _ _ _ _ hsb hrb.1 (by omega)
    rw [hrb.2.2] at hz
    have HZ := Lib.hid hz
    replace hsW := hsW.later hb4 (Nat.le_refl _)
    replace hsr := hsr.later hb4 (Nat.le_refl _)
    have hl1 : b1 < W.heap.size := Nat.lt_of_lt_of_le h1.2.2 hBW.size
    have hl2 : b2 < W.heap.size := Nat.lt_of_lt_of_le h2.2.2 hBW.size
    have c14 := (hb4.cell (p := ⟨b1, 0, none⟩) hl1).trans c1W
    have c24 := (hb4.cell (p := ⟨b2, 0, none⟩) hl2).trans c2W
    have f24 := (hb4.frozen (p := ⟨b2, 0, none⟩) hl2).trans f2W
    have hBW4 := hBW.trans (hb4.mono hBW.size)
    have hl24 : b2 < w4.heap.size := Nat.lt_of_lt_of_le hl2 hb4.size
    have hcm := lcmp_any w4 _ _ _ _ hsW _ _ _ _ hsr HD.out HRN.out.1
    rw [HN.out, HRN.out.2.2] at hcm
    have HCM := Lib.hid hcm
    have kf4 : ∀ B, KeepsFrom B W w4 := fun B => ⟨hb4.size, fun k o _ h _ => (hb4.block k (Array.getElem?_eq_some_iff.1 h).1).trans h⟩
    have HKF := Lib.hid kf4
    clear hz hrb hcm hb4 hsb c1W c2W f2W kf4
    gi_wp2_with fail
    refine ⟨trivial, (CallsIn.inRound l (callsIn_wide.2 HZ.out)).mono ?_⟩
    rintro e w5 ⟨⟨b, rfl, hb⟩, rfl⟩
    have HBZ := Lib.hid hb
    clear hb
    have hnx : ∀ (hs : ¬ Sf N x.i), SfNo N (pre ++ [x]) := fun hs hm i hi => by
      rw [List.length_append, List.length_singleton, List.range_succ, List.map_append] at hm
      obtain ⟨m1, m2⟩ := List.append_inj' hm rfl
      rw [List.length_append, List.length_singleton] at hi
      rcases Nat.lt_or_ge i pre.length with h | h
      · exact HNO.out m1 i h
      · obtain rfl : i = pre.length := by omega
        have : x.i = pre.length := by simpa using m2
        rw [← this]
        exact hs
    have HNX := Lib.hid hnx
    clear hnx
    rcases b with _ | _
    · gi_wp2
      refine ⟨trivial, ?_⟩
      gi_wp2
      refine ⟨HKF.out _, trivial, hBW4, HNX.out fun h => ?_⟩
      have := HBZ.out.2 (by rw [← HP.out]; exact h.1)
      cases this
    · obtain ⟨cv, hcv⟩ : ∃ cv, ncmp N p = cv := ⟨_, rfl⟩
      have HCV := Lib.hid hcv
      rw [hcv] at HCM
      clear hcv
      gi_wp2_with fail
      refine ⟨trivial, (CallsIn.inRound l (callsIn_wide.2 HCM.out)).mono ?_⟩
      rintro e w6 ⟨rfl, hb6⟩
      by_cases he : N = p
      · have h0 : cv = 0 := by rw [← HCV.out, he, ncmp_eq]
        subst h0
        have kf : ∀ B, KeepsFrom B W w6 := fun B => ((HKF.out B).trans ⟨hb6.size, fun k o _ h _ => (hb6.block k (Array.getElem?_eq_some_iff.1 h).1).trans h⟩)
        have hB6 := hBW4.trans (hb6.mono hBW4.size)
        have HKF6 := Lib.hid kf
        have HB6 := Lib.hid hB6
        have HE := Lib.hid he
        clear hb6 kf hB6 he hBW4
        gi_wp2
        exact ⟨HKF6.out _, trivial, HB6.out, HNX.out fun h => h.2 (by rw [HP.out]; exact HE.out)⟩
      · have h0 : ¬ cv = 0 := by
          intro h
          have h2 := ncmp_ne he
          rw [HCV.out, h] at h2
          cases h2
        have c26 := (hb6.cell (p := ⟨b2, 0, none⟩) hl24).trans c24
        have f26 := (hb6.frozen (p := ⟨b2, 0, none⟩) hl24).trans f24
        have hci : ¬ (cv : Int) = 0 := h0
        have hX : SfX w b1 b2 N (w6.setCell ⟨b2, 0, none⟩ (.bool true)) := ⟨((hB.trans (hBW4.mono hB'.out)).trans (hb6.mono (Nat.le_of_lt (Nat.lt_trans h12 hl24)))).setCell (p := ⟨b2, 0, none⟩) (Nat.le_of_lt h12) _, World.cell?_setCell_same' _ _ _ (by rw [c26]; rfl), x.i, x.hi, by rw [HP.out]; exact HBZ.out.1 (by first | rfl | trivial), by rw [HP.out]; exact he⟩
        have kf : ∀ B, KeepsFrom B W (w6.setCell ⟨b2, 0, none⟩ (.bool true)) := fun B => ((HKF.out B).trans ⟨hb6.size, fun k o _ h _ => (hb6.block k (Array.getElem?_eq_some_iff.1 h).1).trans h⟩).trans ((KeepsOthers.setCell _ _ _).from B)
        have HX := Lib.hid hX
        have HKF6 := Lib.hid kf
        clear hb6 hX kf
        gi_wp2
        exact ⟨HKF6.out _, rfl, HX.out⟩
  case done =>
    rintro D ds W hD hds ⟨hBW, hno⟩ hK
    have c2W := (hBW.cell (p := ⟨b2, 0, none⟩) h2.2.2).trans h2.1
    have f2W := (hBW.frozen (p := ⟨b2, 0, none⟩) h2.2.2).trans h2.2.1
    have hno2 : ¬ HasSmall N := fun ⟨i, hi, h⟩ => by
      have hl : ds.length = 12 := by have h := congrArg List.length hds; simpa using h
      exact hno (by rw [hl]; exact hds) i (by omega) h
    have hB3 : Below b1 w (W.setCell ⟨b2, 0, none⟩ (.bool false)) := (hB.trans (hBW.mono hB'.out)).setCell (p := ⟨b2, 0, none⟩) (Nat.le_of_lt h12) _
    have c3 : (W.setCell ⟨b2, 0, none⟩ (.bool false)).cell? ⟨b2, 0, none⟩ = some (.bool false) := World.cell?_setCell_same' _ _ _ (by rw [c2W]; rfl)
    have hK3 : (W.setCell ⟨b2, 0, none⟩ (.bool false)).heap[D]? = some (.deferred (some [])) := (KeepsOthers.setCell _ _ _).same D _ hK rfl
    have HNO := Lib.hid hno2
    have HB3 := Lib.hid hB3
    have hD1 : b1 ≤ D := by have := h1.2.2; omega
    obtain ⟨W3, e3⟩ : ∃ W3, W.setCell ⟨b2, 0, none⟩ (.bool false) = W3 := ⟨_, rfl⟩
    rw [e3] at HB3 c3 hK3
    clear hno2 hB3 hno hds
    gi_wp2
    refine ⟨by simp, .inl ⟨_, _, rfl, run_takeDeferred hK3, ?_⟩⟩
    have c4 := cell_kept c3 (grownBy_putObj' W3 D (.deferred none)) (fun r e => by cases e; exact ⟨_, hK3, rfl⟩)
    refine ⟨.bool false, ?_, ⟨false, rfl, fun h => (by cases h), fun h => absurd h HNO.out⟩, ?_⟩
    · simp [results, Tryd.f75, c4, go_sem]
    · rw [HB1.out]
      exact HB3.out.grown (grownBy_putObj' W3 D (.deferred none)) (by have := (Array.getElem?_eq_some_iff.1 hK3).1; omega) (fun k e => by cases e; exact hD1)
  case stop =>
    rintro D k pre W hD hpre ⟨rfl, hX⟩ hK
    have HX := Lib.hid hX
    have c3 := hX.c2
    have hD1 : b1 ≤ D := by have := h1.2.2; omega
    clear hX
    gi_wp2
    refine ⟨by simp, .inl ⟨_, _, rfl, run_takeDeferred hK, ?_⟩⟩
    have c4 := cell_kept c3 (grownBy_putObj' W D (.deferred none)) (fun r e => by cases e; exact ⟨_, hK, rfl⟩)
    refine ⟨.bool true, ?_, ⟨true, rfl, fun _ => HX.out.yes, fun _ => rfl⟩, ?_⟩
    · simp [results, Tryd.f75, c4, go_sem]
    · rw [HB1.out]
      exact HX.out.bel.grown (grownBy_putObj' W D (.deferred none)) (by have := (Array.getElem?_eq_some_iff.1 hK).1; omega) (fun k e => by cases e; exact hD1)
end Go.Proofs.YtdcijkjlgkfkdaaDoor

/- modarith: Probable with the witnesses of Few. -/
namespace Go.Proofs.YtdcijkjlgkfkdaaDoor
open Go.RowKit Go.Shelf
attribute [local go_sem] Oper.semAt_some

/-- a body with a label that no goto names, within a fence -/
theorem wpIn_scope {F : Fence} {n : Nat} {P : Program} {c : Code} {Q : Exit → Act → World → Prop} {a : Act} {w : World} (h : c.wpIn F n P (Exit.noGoto Q) a w) : (Code.scope c).wpIn F n P Q a w := by
  intro b k cs hro hb hr
  have s0 : (lone (b.atR a (.code (.scope c) :: k)) cs w).fenced P F := fenced_calm hb hr rfl
  have s1 : step P (lone (b.atR a (.code (.scope c) :: k)) cs w) = .next (lone (b.atR a (.code c :: .inScope c :: k)) cs w) := step_lone_go (by simp [stepG, stepG.exec, Frame.atR])
  obtain ⟨e, a₁, w₁, hq, harr⟩ := h b (.inScope c :: k) cs hro hb hr
  have s2 : step P (lone (b.atR a₁ (.inScope c :: k)) cs w₁) = .next (lone (b.atR a₁ k) cs w₁) := step_lone_go (by simp [stepG, stepG.exec, Frame.atR])
  cases e with
  | normal => exact ⟨.normal, a₁, w₁, hq, .head s0 s1 (StepsIn.trans harr (.one (fenced_calm hb hr rfl) s2))⟩
  | goto l => exact hq.elim
  | exit id =>
    have hx : exitTo id (.inScope c :: k) = exitTo id k := by simp [exitTo]
    refine ⟨.exit id, a₁, w₁, hq, fun k' hk => .head s0 s1 (harr.1 k' (hx.trans hk)), fun hr' hk => ?_⟩
    obtain ⟨k₁, h1, h2⟩ := harr.2 hr' (hx.trans hk)
    exact ⟨k₁, h1, .head s0 s1 h2⟩
  | ret => exact ⟨_, a₁, w₁, hq, .of_steps (.one s0 s1) harr⟩
  | panic ch => exact ⟨_, a₁, w₁, hq, .of_steps (.one s0 s1) harr⟩
  | outgrown => exact ⟨_, a₁, w₁, hq, .of_steps (.one s0 s1) harr⟩

theorem seq_nil (w : World) : (binOp .eql 47 (.func (.func 59) #[] #[]) .nilFunc).run Tryd.prog w = .ok (.bool false) w := rfl
/-- the deferred function, behind a walk without a panic: it does nothing -/
theorem prob1_idle (p : Addr) (w : World) :
    CallsDIn Fence.wide 8 Tryd.prog 60 #[.pointer (some p)] .returning w fun e u' w' => e = .returned (.tuple #[]) ∧ u' = .returning ∧ w' = w := by
  refine callsDIn_of_wpSIn Tryd.func60 rfl trivial fun c₀ cs hu => ?_
  apply wpSIn_seq
  apply wpSIn_region
  simp [wpOpsSIn, go_sem, recoverD, hu, Tryd.ntmps60, Exit.thenS]
  refine wpSIn_cond (t := false) (by simp [Act.eval, Array.replicate]) ?_
  simp only [Bool.false_eq_true, if_false]
  refine wpSIn_of_wpIn rfl (wpIn_skip ?_)
  cases c₀
  simp_all [bodyPostS, results, Tryd.results60]

def ProbF (N : Nat) : Prop := (¬ Tst N ∧ N = 2) ∨ (Tst N ∧ ∀ i, i < 12 → MR N (fewL.getD i 0))
def PrNo (N : Nat) (pre : List FewX) : Prop := pre.map (·.i) = List.range pre.length → ∀ i, i < pre.length → MR N (fewL.getD i 0)
/-- left with no -/
structure PrX (w : World) (b1 b2 : Nat) (N : Nat) (W : World) : Prop where
  bel : Below b1 w W
  c2 : W.cell? ⟨b1, 0, none⟩ = some (.bool false)
  f2 : W.frozen? ⟨b1, 0, none⟩ = false
  no : ∃ i, i < 12 ∧ ¬ MR N (fewL.getD i 0)

set_option maxRecDepth 100000 in
set_option maxHeartbeats 4000000 in
theorem probable_few (w : World) (hG : FewG w) (A : Option Addr) (n c : Nat) (xs : List Nat) (hs : Sl w w.heap.size A n c xs) (hd : Dg b64 xs) (hn : n ≤ 10000000) (N : Nat) (hN : V b64 xs = N) :
    Calls Tryd.prog 30 #[.slice A n c, .func (.func 59) #[] #[]] w fun e w' => RetB (ProbF N) e ∧ Below w.heap.size w w' := by
  obtain ⟨W1, e1, hB1, c1, f1, s1⟩ := newboxE w 4 (.bool false)
  obtain ⟨b1, hb1⟩ : ∃ b, w.heap.size = b := ⟨_, rfl⟩
  have h1 : BxE b1 (.bool false) W1 := ⟨hb1 ▸ c1, hb1 ▸ f1, by omega⟩
  have hB : Below b1 w W1 := by rw [← hb1]; exact hB1
  have hG1 : FewG W1 := hG.later hB1
  have hs1 := hs.later hB1 (Nat.le_refl _)
  have hmf : ∀ (fn : Fn) (first cap : Array Value) (w : World), (Instr.makeFunc fn first cap).run Tryd.prog w = .ok (.func fn first cap) w := fun _ _ _ _ => rfl
  have hsn := seq_nil
  have hG0 := Lib.hid hG.1
  have hte := testable_any W1 _ _ _ _ hs1 hd (by omega) N hN
  have HTE := Lib.hid hte
  have HB1 := Lib.hid hb1
  have hB' := Lib.hid (show b1 ≤ W1.heap.size from Nat.le_of_lt h1.2.2)
  have HD := Lib.hid hd
  have HN := Lib.hid hN
  have HG := Lib.hid hG1
  clear hd hN hG hG1 hB1 c1 f1 s1 hs hte
  refine (callsIn_wide (n := 9)).1 ?_
  refine callsIn_of_wp_marks Tryd.func30 rfl trivial ?_ rfl
  simp only [Tryd.ntmps30, List.size_toArray, List.length_cons, List.length_nil, Nat.reduceAdd, Nat.reduceSub, Array.replicate_succ, Array.replicate_zero, List.push_toArray, List.append_toArray, List.nil_append, List.cons_append]
  gi_wp2_with fail
  refine wpIn_scope ?_
  clear e1 hb1
  have c1 := h1.1
  have f1 := h1.2.1
  gi_wp2_with fail
  refine ⟨trivial, (callsIn_wide.2 HTE.out).mono ?_⟩
  rintro e w2 ⟨⟨b, rfl, hb⟩, hc⟩
  have HBT := Lib.hid hb
  replace h1 := h1.later hc
  replace hs1 := hs1.later hc (Nat.le_refl _)
  replace hB := hB.trans (hc.mono hB'.out)
  have hG2 := HG.out.later hc
  clear hb hc c1 f1
  have c1 := h1.1
  have f1 := h1.2.1
  rcases b with _ | _
  · have hnt : ¬ Tst N := fun h => by have := HBT.out.2 h; cases this
    have heq : Calls Tryd.prog 50 #[.slice A n c, .int .u64 2] w2 fun e w' => (∃ b, e = .returned (.bool b) ∧ (b = true ↔ V b64 xs = 2)) ∧ Below w2.heap.size w2 w' := equals_any w2 _ _ _ _ hs1 HD.out 2 (by decide)
    rw [HN.out] at heq
    have HEQ := Lib.hid heq
    have HNT := Lib.hid hnt
    clear heq hnt
    gi_wp2_with fail
    refine ⟨trivial, (callsIn_wide.2 HEQ.out).mono ?_⟩
    rintro e w3 ⟨⟨b, rfl, hb⟩, hc⟩
    replace h1 := h1.later hc
    have hB3 : Below b1 w (w3.setCell ⟨b1, 0, none⟩ (.bool b)) := (hB.trans (hc.mono (by have := h1.2.2; have := hB.size; have := HB1.out; omega))).setCell (p := ⟨b1, 0, none⟩) (Nat.le_refl _) _
    have HB3 := Lib.hid hB3
    have HBE := Lib.hid hb
    clear hb hc c1 f1 hB3
    have c1 := h1.1
    have f1 := h1.2.1
    have c4 : (w3.setCell ⟨b1, 0, none⟩ (.bool b)).cell? ⟨b1, 0, none⟩ = some (.bool b) := World.cell?_setCell_same' _ _ _ (by rw [c1]; rfl)
    have HC4 := Lib.hid c4
    clear c4
    gi_wp2
    rw [Exit.noGoto_ret]
    refine ⟨.bool b, ?_, ⟨b, rfl, HBE.out.trans ⟨fun h => .inl ⟨HNT.out, h⟩, fun h => ?_⟩⟩, ?_⟩
    · simp [results, Tryd.f30, HC4.out, go_sem]
    · rcases h with h | h
      · exact h.2
      · exact absurd h.1 HNT.out
    · rw [HB1.out]; exact HB3.out
  · have hT : Tst N := HBT.out.1 rfl
    have HT := Lib.hid hT
    have hno := norm_any w2 _ _ _ _ _ hs1 HD.out (by omega)
    have HNO := Lib.hid hno
    clear hT hno
    gi_wp2_with fail
    refine ⟨trivial, (callsIn_wide.2 HNO.out).mono ?_⟩
    rintro e w3 ⟨ys, hN3, A3, n3, c3, rfl, hs3, hc⟩
    replace h1 := h1.later hc
    replace hB := hB.trans (hc.mono (by have := h1.2.2; have := hB.size; have := HB1.out; omega))
    replace hG2 := hG2.later hc
    have hn3 : n3 ≤ n := by
      rw [hs3.len, hs1.len]
      exact hN3.length_le (by decide) (V_lt _ HD.out)
    rw [HN.out] at hN3
    obtain ⟨W4, e4, hB4, c4, f4, s4⟩ := newboxE w3 23 (.slice none 0 0)
    obtain ⟨b2, hb2⟩ : ∃ b, w3.heap.size = b := ⟨_, rfl⟩
    rw [hb2] at c4 f4
    have h12 : b1 < b2 := by have := h1.2.2; omega
    have h2 : BxE b2 (.slice A3 n3 c3) (W4.setCell ⟨b2, 0, none⟩ (.slice A3 n3 c3)) := ⟨World.cell?_setCell_same' _ _ _ (by rw [c4]; rfl), by rw [World.frozen?_setCell]; exact f4, by simp [World.setCell]; omega⟩
    have hBx : Below w3.heap.size w3 (W4.setCell ⟨b2, 0, none⟩ (.slice A3 n3 c3)) := hB4.setCell (p := ⟨b2, 0, none⟩) (by show _ ≤ b2; omega) _
    have h14 := h1.later hBx
    obtain ⟨W5, e5⟩ : ∃ W5, W4.setCell ⟨b2, 0, none⟩ (.slice A3 n3 c3) = W5 := ⟨_, rfl⟩
    rw [e5] at h2 hBx h14
    replace hs3 := hs3.later hBx (Nat.le_refl _)
    replace hG2 := hG2.later hBx
    have c15 := h14.1
    have f15 := h14.2.1
    replace hB := hB.trans (hBx.mono (by have := h1.2.2; omega))
    have HG2 := Lib.hid hG2
    have HN3 := Lib.hid hN3
    have HBB := Lib.hid hB
    have HS1 := Lib.hid hs1
    clear hB4 hc hBx s4 hG2 hN3 hB hs1
    gi_wp2
    refine wpIn_label ?_
    obtain ⟨W6, e6⟩ : ∃ W6, W5.setCell ⟨b1, 0, none⟩ (.bool true) = W6 := ⟨_, rfl⟩
    rw [e6]
    have hz6 : W6.heap.size = W5.heap.size := by rw [← e6]; simp [World.setCell]
    have h16 : BxE b1 (.bool true) W6 := ⟨by rw [← e6]; exact World.cell?_setCell_same' _ _ _ (by rw [c15]; rfl), by rw [← e6, World.frozen?_setCell]; exact f15, by rw [hz6]; exact h14.2.2⟩
    have h26 : BxE b2 (.slice A3 n3 c3) W6 := ⟨by rw [← e6]; exact (World.cell?_setCell_other _ _ _ _ (by intro h; injection h; omega)).trans h2.1, by rw [← e6, World.frozen?_setCell]; exact h2.2.1, by rw [hz6]; exact h2.2.2⟩
    have hs6 : Sl W6 W6.heap.size A3 n3 c3 ys := by
      rw [hz6, ← e6]
      exact hs3.setOther (fun x h => by rw [c15] at h; cases h) _
    have hG6 : FewG W6 := ⟨by rw [hz6]; exact HG2.out.1, fun k x hx => by
      rw [← e6]
      have hne : (0 : Nat) ≠ b1 := by have := HG.out.1; have := HB1.out; have := hG0.out; omega
      exact (World.cell?_setCell_other _ _ _ _ (by intro h; injection h with h1 h2; exact hne h1.symm)).trans (HG2.out.2 k x hx)⟩
    have hB6 : Below b1 w W6 := by rw [← e6]; exact HBB.out.setCell (p := ⟨b1, 0, none⟩) (Nat.le_refl _) _
    have hseq := few1_in 8 (by decide) W6 hG6
    have HSEQ := Lib.hid hseq
    have HB6 := Lib.hid hB6
    have HG6 := Lib.hid hG6
    clear hseq hB6 hG6 e6 hz6 h14 c15 f15 h2 hs3 c4 f4 e4 e5 c1 f1 h1 hb2
    gi_wp2_with fail
    refine wpIn_rangeR rfl (by decide) (gf := 59) (lb := #[]) rfl trivial (enters_of Tryd.func59 (by kernel_rfl) rfl)
      HSEQ.out (fun _ _ => trivial) (fun _ _ _ _ _ _ _ _ => trivial) (fun _ => rfl)
      (fun pre W => Below W6.heap.size W6 W ∧ PrNo N pre)
      (fun k _ W => k = .exit 0 ∧ PrX w b1 b2 N W)
      (OwnFrom.and (ownFrom_below (Nat.le_refl _) (Nat.le_refl _)) (ownFrom_pure _ _)) ?hIx (FewR.own _) ⟨Below.refl _ _, fun _ i hi => absurd hi (Nat.not_lt_zero _)⟩ ?a1x ?assign ?body ?done ?stop
    case hIx =>
      intro k s X Y row hs hg hr
      obtain ⟨rfl, h1', h2', hf', h3⟩ := hs
      exact ⟨rfl, ⟨h1'.grown hg (by have := h1'.size; have := HB1.out; omega) (fun r e => by have := (hr r e).1; have := h16.2.2; omega), cell_kept h2' hg (fun r e => (hr r e).2), (frozen_kept h2' hg (fun r e => (hr r e).2)).trans hf', h3⟩⟩
    case assign =>
      intro l x W K hK
      gi_wp2
      exact hK
    case body =>
      rintro l pre x W ⟨hBW, hno⟩ ⟨rs, hsr, hrn⟩ hpl
      have c1W := (hBW.cell (p := ⟨b1, 0, none⟩) h16.2.2).trans h16.1
      have f1W := (hBW.frozen (p := ⟨b1, 0, none⟩) h16.2.2).trans h16.2.1
      have c2W := (hBW.cell (p := ⟨b2, 0, none⟩) h26.2.2).trans h26.1
      have hsW := hs6.later hBW (Nat.le_refl _)
      obtain ⟨p, hp⟩ : ∃ p, fewL.getD x.i 0 = p := ⟨_, rfl⟩
      rw [hp] at hrn
      have hpp := fewL_pos x.hi
      rw [hp] at hpp
      have hnr : x.n ≤ 1 := by
        rw [hsr.len]
        exact hrn.length_le (by decide) (Nat.lt_of_le_of_lt hpp.2 (by decide))
      have hst := strong_any W _ _ _ _ hsW _ _ _ _ hsr HN3.out.1 hrn.1 (by omega) (by omega) N p HN3.out.2.2 hrn.2.2
      have HST := Lib.hid hst
      have HP := Lib.hid hp
      have HNO := Lib.hid hno
      clear hst hp hno hrn hpp
      gi_wp2_with fail
      refine ⟨trivial, (CallsIn.inRound l (callsIn_wide.2 HST.out)).mono ?_⟩
      rintro e w4 ⟨⟨b, rfl, hb⟩, hb4⟩
      have HBT2 := Lib.hid hb
      have hl1 : b1 < W.heap.size := Nat.lt_of_lt_of_le h16.2.2 hBW.size
      have c14 := (hb4.cell (p := ⟨b1, 0, none⟩) hl1).trans c1W
      have f14 := (hb4.frozen (p := ⟨b1, 0, none⟩) hl1).trans f1W
      have hBW4 := hBW.trans (hb4.mono hBW.size)
      have hl14 : b1 < w4.heap.size := Nat.lt_of_lt_of_le hl1 hb4.size
      have kf4 : ∀ B, KeepsFrom B W w4 := fun B => ⟨hb4.size, fun k o _ h _ => (hb4.block k (Array.getElem?_eq_some_iff.1 h).1).trans h⟩
      have HKF := Lib.hid kf4
      clear hb hb4 c1W f1W kf4
      rcases b with _ | _
      · have hX : PrX w b1 b2 N (w4.setCell ⟨b1, 0, none⟩ (.bool false)) := ⟨(HB6.out.trans (hBW4.mono (Nat.le_of_lt h16.2.2))).setCell (p := ⟨b1, 0, none⟩) (Nat.le_refl _) _, World.cell?_setCell_same' _ _ _ (by rw [c14]; rfl), by rw [World.frozen?_setCell]; exact f14, x.i, x.hi, by
          rw [HP.out]
          intro h
          have := HBT2.out.2 h
          cases this⟩
        have kf : ∀ B, KeepsFrom B W (w4.setCell ⟨b1, 0, none⟩ (.bool false)) := fun B => (HKF.out B).trans ((KeepsOthers.setCell _ _ _).from B)
        have HX := Lib.hid hX
        have HKF6 := Lib.hid kf
        clear hX kf
        gi_wp2
        exact ⟨HKF6.out _, rfl, HX.out⟩
      · have hnx : PrNo N (pre ++ [x]) := fun hm i hi => by
          rw [List.length_append, List.length_singleton, List.range_succ, List.map_append] at hm
          obtain ⟨m1, m2⟩ := List.append_inj' hm rfl
          rw [List.length_append, List.length_singleton] at hi
          rcases Nat.lt_or_ge i pre.length with h | h
          · exact HNO.out m1 i h
          · obtain rfl : i = pre.length := by omega
            have : x.i = pre.length := by simpa using m2
            rw [← this, HP.out]
            exact HBT2.out.1 rfl
        have HNX := Lib.hid hnx
        clear hnx
        gi_wp2
        exact ⟨HKF.out _, trivial, hBW4, HNX.out⟩
    case done =>
      rintro D ds W hD hds ⟨hBW, hno⟩ hK
      have c1W := (hBW.cell (p := ⟨b1, 0, none⟩) h16.2.2).trans h16.1
      have f1W := (hBW.frozen (p := ⟨b1, 0, none⟩) h16.2.2).trans h16.2.1
      have hyes : ProbF N := .inr ⟨HT.out, by
        have hl : ds.length = 12 := by have h := congrArg List.length hds; simpa using h
        have h2 := hno (by rw [hl]; exact hds)
        rw [hl] at h2
        exact h2⟩
      have hyn : (true = true) ↔ ProbF N := ⟨fun _ => hyes, fun _ => rfl⟩
      have cW2 : (W.setCell ⟨b1, 0, none⟩ (.bool true)).cell? ⟨b1, 0, none⟩ = some (.bool true) := World.cell?_setCell_same' _ _ _ (by rw [c1W]; rfl)
      have hK3 : (W.setCell ⟨b1, 0, none⟩ (.bool true)).heap[D]? = some (.deferred (some [])) := (KeepsOthers.setCell _ _ _).same D _ hK rfl
      have hBW2 : Below b1 w (W.setCell ⟨b1, 0, none⟩ (.bool true)) := (HB6.out.trans (hBW.mono (Nat.le_of_lt h16.2.2))).setCell (p := ⟨b1, 0, none⟩) (Nat.le_refl _) _
      have hD1 : b1 ≤ D := by have := h16.2.2; omega
      obtain ⟨W7, e7⟩ : ∃ W7, W.setCell ⟨b1, 0, none⟩ (.bool true) = W7 := ⟨_, rfl⟩
      rw [e7] at cW2 hK3 hBW2
      have HBW2 := Lib.hid hBW2
      have HYN := Lib.hid hyn
      clear hBW2 hyn hyes hno hds
      gi_wp2
      try rw [Exit.noGoto_ret]
      have c8 := cell_kept cW2 (grownBy_putObj' W7 D (.deferred none)) (fun r e => by cases e; exact ⟨_, hK3, rfl⟩)
      refine ⟨by simp, .inl ⟨_, _, rfl, run_takeDeferred hK3, ?_⟩⟩
      refine ⟨by simp, .inr ⟨fun _ => by decide, _, _, 60, #[.pointer (some ⟨b1, 0, none⟩)], rfl, ?_, fun _ _ => trivial, (prob1_idle ⟨b1, 0, none⟩ _).mono ?_⟩⟩
      · simp [go_sem]
      rintro e u' w'' ⟨rfl, rfl, rfl⟩
      refine ⟨.bool true, ?_, ⟨true, rfl, ⟨fun _ => HYN.out.1 trivial, fun _ => rfl⟩⟩, ?_⟩
      · simp [results, Tryd.f30, c8, go_sem]
      · rw [HB1.out]
        exact HBW2.out.grown (grownBy_putObj' W7 D (.deferred none)) (by have := (Array.getElem?_eq_some_iff.1 hK3).1; omega) (fun k e => by cases e; exact hD1)
    case stop =>
      rintro D k pre W hD hpre ⟨rfl, hX⟩ hK
      have c1W := hX.c2
      have f1W := hX.f2
      have hyn : (false = true) ↔ ProbF N := by
        refine ⟨fun h => (by cases h), fun h => ?_⟩
        obtain ⟨i, hi, hn⟩ := hX.no
        rcases h with h | h
        · exact absurd HT.out h.1
        · exact absurd (h.2 i hi) hn
      have cW2 : (W.setCell ⟨b1, 0, none⟩ (.bool false)).cell? ⟨b1, 0, none⟩ = some (.bool false) := World.cell?_setCell_same' _ _ _ (by rw [c1W]; rfl)
      have hK3 : (W.setCell ⟨b1, 0, none⟩ (.bool false)).heap[D]? = some (.deferred (some [])) := (KeepsOthers.setCell _ _ _).same D _ hK rfl
      have hBW2 : Below b1 w (W.setCell ⟨b1, 0, none⟩ (.bool false)) := hX.bel.setCell (p := ⟨b1, 0, none⟩) (Nat.le_refl _) _
      have hD1 : b1 ≤ D := by have := h16.2.2; omega
      obtain ⟨W7, e7⟩ : ∃ W7, W.setCell ⟨b1, 0, none⟩ (.bool false) = W7 := ⟨_, rfl⟩
      rw [e7] at cW2 hK3 hBW2
      have HBW2 := Lib.hid hBW2
      have HYN := Lib.hid hyn
      clear hBW2 hyn hX
      gi_wp2
      try rw [Exit.noGoto_ret]
      have c8 := cell_kept cW2 (grownBy_putObj' W7 D (.deferred none)) (fun r e => by cases e; exact ⟨_, hK3, rfl⟩)
      refine ⟨by simp, .inl ⟨_, _, rfl, run_takeDeferred hK3, ?_⟩⟩
      refine ⟨by simp, .inr ⟨fun _ => by decide, _, _, 60, #[.pointer (some ⟨b1, 0, none⟩)], rfl, ?_, fun _ _ => trivial, (prob1_idle ⟨b1, 0, none⟩ _).mono ?_⟩⟩
      · simp [go_sem]
      rintro e u' w'' ⟨rfl, rfl, rfl⟩
      refine ⟨.bool false, ?_, ⟨false, rfl, ⟨fun h => (by cases h), fun h => HYN.out.2 h⟩⟩, ?_⟩
      · simp [results, Tryd.f30, c8, go_sem]
      · rw [HB1.out]
        exact HBW2.out.grown (grownBy_putObj' W7 D (.deferred none)) (by have := (Array.getElem?_eq_some_iff.1 hK3).1; omega) (fun k e => by cases e; exact hD1)
end Go.Proofs.YtdcijkjlgkfkdaaDoor

/- modarith: firstOdd, fits. -/
namespace Go.Proofs.YtdcijkjlgkfkdaaDoor
open Go.RowKit Go.Shelf

def firstN (N : Nat) : Nat := if N < 2 then 3 else N + (1 - N % 2)
theorem firstN_odd (N : Nat) : firstN N % 2 = 1 := by unfold firstN; split <;> omega
theorem firstN_le (N : Nat) : firstN N ≤ N + 3 ∧ 3 ≤ firstN N := by unfold firstN; split <;> omega

set_option maxRecDepth 100000 in
set_option maxHeartbeats 1600000 in
theorem firstOdd_any (w : World) (A : Option Addr) (n c : Nat) (xs : List Nat) (hs : Sl w w.heap.size A n c xs) (hd : Dg b64 xs) (hn : n ≤ 10000000) (N : Nat) (hN : V b64 xs = N) :
    Calls Tryd.prog 56 #[.slice A n c] w fun e w' => RetN b64 w (firstN N) e w' := by
  have hbs := bits_any w _ A n c xs hs hd (by omega)
  rw [hN] at hbs
  have hbi := bit_any w _ A n c xs hs hd 0 (by decide)
  rw [hN, Nat.pow_zero, Nat.div_one] at hbi
  obtain ⟨bv, hbv⟩ : ∃ bv, N % 2 = bv := ⟨_, rfl⟩
  rw [hbv] at hbi
  have hbi2 : Calls Tryd.prog 55 #[.slice A n c, .int .i64 0] w fun e w' => e = .returned (.int .u64 (bv : Int)) ∧ w = w' := hbi
  have hb2 : bv = 0 ∨ bv = 1 := by have := Nat.mod_lt N (show 0 < 2 by decide); omega
  have HBS := Lib.hid hbs
  have HBI := Lib.hid hbi2
  have HBV := Lib.hid hbv
  have HN := Lib.hid hN
  have HD := Lib.hid hd
  clear hbs hbi hbi2 hbv hN hd
  go_enter Tryd.func56, Tryd.ntmps56
  go_wp2_with fail
  refine HBS.out.mono ?_
  rintro e w1 ⟨kk, rfl, hkk, rfl⟩
  have hgt := (bits_gt (q := 1) hkk).trans lg_one
  have HG := Lib.hid hgt
  clear hgt hkk
  by_cases h1 : kk < 2
  · have hi : (kk : Int) < 2 := by omega
    have HH := Lib.hid h1
    have ho3 : Calls Tryd.prog 36 #[.int .u64 3] w (fun e w' => RetN b64 w 3 e w') := of_any 3 (by decide) w
    have HO := Lib.hid ho3
    clear h1 ho3
    go_wp2_with fail
    refine HO.out.mono ?_
    rintro e w2 ⟨rs, hrs, Ar, nr, cr, rfl, hsr, hb⟩
    have hN2 : N < 2 := by
      apply Classical.byContradiction
      intro h
      have := HG.out.2 (by omega)
      have := HH.out
      omega
    have hf : firstN N = 3 := by unfold firstN; rw [if_pos hN2]
    have HF := Lib.hid hf
    clear hf hN2
    go_wp2
    go_ret
    exact ⟨rs, by rw [HF.out]; exact hrs, Ar, nr, cr, rfl, hsr, hb⟩
  · have hi : ¬ (kk : Int) < 2 := by omega
    have HH := Lib.hid h1
    clear h1
    go_wp2_with fail
    refine HBI.out.mono ?_
    rintro e w2 ⟨rfl, rfl⟩
    have hN2 : ¬ N < 2 := by
      have := HG.out.1 (by have := HH.out; omega)
      omega
    have hf : firstN N = N + (1 - bv) := by unfold firstN; rw [if_neg hN2, HBV.out]
    have HF := Lib.hid hf
    have ho : Calls Tryd.prog 36 #[.int .u64 ((1 - bv : Nat) : Int)] w (fun e w' => RetN b64 w (1 - bv) e w') := of_any (1 - bv) (Nat.lt_of_le_of_lt (Nat.sub_le _ _) (by decide)) w
    have HO := Lib.hid ho
    clear hf hN2 ho
    have fin : ∀ w2 e, RetN b64 w (1 - bv) e w2 → ∃ rs Ar nr cr, Nm b64 rs (1 - bv) ∧ e = .returned (.slice Ar nr cr) ∧ nr ≤ 1 ∧ Sl w2 w2.heap.size Ar nr cr rs ∧ Below w.heap.size w w2 := by
      rintro w2 e ⟨rs, hrs, Ar, nr, cr, rfl, hsr, hb⟩
      exact ⟨rs, Ar, nr, cr, hrs, rfl, by rw [hsr.len]; exact hrs.length_le (by decide) (Nat.lt_of_le_of_lt (Nat.sub_le _ _) (by decide)), hsr, hb⟩
    have HFIN := Lib.hid fin
    clear fin
    rcases hb2 with h0 | h0
    all_goals
      subst h0
      go_wp2_with fail
      refine HO.out.mono ?_
      rintro e w2 hr
      obtain ⟨rs, Ar, nr, cr, hrs, rfl, hnr, hsr, hb⟩ := HFIN.out _ _ hr
      have had := ladd_any w2 _ (Nat.le_refl _) _ _ _ _ (hs.later hb (Nat.le_refl _)) _ _ _ _ hsr HD.out hrs.1 (by omega) (by omega)
      rw [hrs.2.2, HN.out, ← HF.out] at had
      have HAD := Lib.hid had
      clear hr hrs had hsr
      go_wp2_with fail
      refine HAD.out.mono ?_
      rintro e w3 ⟨qs, hqs, Aq, nq, cq, rfl, hsq, hb3⟩
      go_wp2
      go_ret
      exact ⟨qs, hqs, Aq, nq, cq, rfl, hsq, hb.trans (hb3.mono hb.size)⟩
end Go.Proofs.YtdcijkjlgkfkdaaDoor
