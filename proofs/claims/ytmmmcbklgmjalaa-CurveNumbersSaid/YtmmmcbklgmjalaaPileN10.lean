/- Parts of one proof, joined: CuP, TreeB, CuQ, CuR, CuT, MidIn. -/
import Derived.Test.YtmmmcbklgmjalaaPileN9
import Derived.Test.YtmmmcbklgmjalaaPileN2
import Derived.Test.YtmmmcbklgmjalaaPileN6
import Derived.Test.YtmmmcbklgmjalaaPileN3
import Derived.Test.YtmmmcbklgmjalaaRows
import Derived.OwnWalkIn
import Derived.Deep.MidRow

/- curve: Encode. -/
set_option linter.unusedVariables false
set_option linter.unusedSimpArgs false
namespace Go.Proofs.Ytmmmcbklgmjalaa
open Go.RowKit

/-- a byte string's limbs, as bytes -/
def beW (n N : Nat) : List (BitVec 8) := (be n N).map fun x => BitVec.ofNat 8 x
theorem beW_W8 (n N : Nat) : (beW n N).map W8 = (be n N).map U8 := by
  unfold beW
  rw [List.map_map]
  refine List.map_congr_left fun x hx => ?_
  have := be_lt n N x hx
  simp [i8, BitVec.toNat_ofNat, Nat.mod_eq_of_lt this]
theorem bytes_u (w : World) (a : Value) (x : Nat) (ha : NumR w 64 x a) (m : Nat) (hm : m ≤ 65536) (hlt : x < 256 ^ m) (hm0 : 0 < m) :
    Calls Try.prog 35 #[a, .int .i64 (m : Int)] w fun e w' => ∃ g, e = .returned (.tuple #[.slice (some ⟨g, 0, none⟩) m m, .bool true]) ∧ RowV 5 w' g ((beW m x).map W8) ∧ Below w.heap.size w w' := by
  obtain ⟨xs, A, n, c, rfl, hs, hd, rfl, hn⟩ := ha
  refine (bytes_yes w _ (Nat.le_refl _) _ _ _ _ hs hd (by omega) m hm hlt).mono ?_
  rintro e w' ⟨g, rfl, hr, hb⟩
  refine ⟨g, rfl, ?_, hb⟩
  rw [beW_W8]
  exact hr
/-- the encoding of a point -/
def encN (s : Nat) : Option (Nat × Nat) → List (BitVec 8)
  | none => [0]
  | some (x, y) => 4 :: (beW s x ++ beW s y)

set_option maxRecDepth 100000 in
set_option maxHeartbeats 4000000 in
theorem cEnc_none (w : World) (c : Int) (hc : crvOf c = none) (vP : Value) (hP : P3 vP) :
    Calls Try.prog 21 #[.int .i64 c, vP] w fun e w' => e = .returned (.tuple #[.slice none 0 0, .bool false]) ∧ Below w.heap.size w w' := by
  have hmx : Try.prog.follows .mixedOrders = true := by kernel_rfl
  obtain ⟨iP, bP, dP, rfl, hi1, hi2, hi3⟩ := hP
  obtain ⟨W0, e0, r0, b0, s0⟩ := newS w 36 [iP, bP, dP] _ rfl
  obtain ⟨gP, hgP⟩ : ∃ x, w.heap.size = x := ⟨_, rfl⟩
  obtain ⟨W1, e1, r1, b1, s1⟩ := newS W0 36 [iP, bP, dP] _ rfl
  obtain ⟨gs, hgs⟩ : ∃ x, W0.heap.size = x := ⟨_, rfl⟩
  rw [hgP] at r0
  rw [hgs] at r1
  have hbw : Below w.heap.size w W1 := (b0).trans (b1.mono (b0).size)
  have qgP := (r0.later b1)
  have qgs := r1
  have HB := Lib.hid hbw
  have HGL := Lib.hid (show w.heap.size ≤ gP ∧ gP < W1.heap.size by omega)
  have HRP := Lib.hid qgP
  have pp0 := r0.at_ (i := 0) rfl
  have p0 := qgP.at_ (i := 0) rfl
  have pp1 := r0.at_ (i := 1) rfl
  have p1 := qgP.at_ (i := 1) rfl
  have pp2 := r0.at_ (i := 2) rfl
  have p2 := qgP.at_ (i := 2) rfl
  have HDW := Lib.hid (domW_no W1 c hc (.slice (some ⟨gs, 0, none⟩) 1 1))
  clear  b0 s0 r0 b1 s1 r1 hbw qgP qgs hc
  go_enter Try.func21, Try.ntmps21
  go_wp2_with fail
  refine HDW.out.mono ?_
  rintro e w1 ⟨rfl, hb1⟩
  obtain ⟨W5, e5, r5, b5, s5⟩ := newS w1 59 [.int .i64 0, .slice none 0 0, .slice none 0 0, .slice none 0 0, .bool false, .slice none 0 0, .slice none 0 0] _ rfl
  obtain ⟨g8, hg8⟩ : ∃ x, w1.heap.size = x := ⟨_, rfl⟩
  rw [hg8] at r5
  have HB5 := Lib.hid b5
  have HB1 := Lib.hid hb1
  have HG8 := Lib.hid (show W1.heap.size ≤ g8 by have := hb1.size; omega)
  clear hb1 b5 s5 p0 p1 p2 pp0 pp1 pp2
  go_wp2_with ((with_reducible show wpList _ _ _ (⟨none, _, _, _, _, _⟩ :: _) _ _); refine wlS_store rfl 59 7 Try.sizeDom _ _ rfl g8 [.int .i64 0, .slice none 0 0, .slice none 0 0, .slice none 0 0, .bool false, .slice none 0 0, .slice none 0 0] rfl rfl 59 _ r5 rfl rfl (by intro v hv; simp only [List.mem_cons, List.not_mem_nil, or_false] at hv; rcases hv with rfl | rfl | rfl | rfl | rfl | rfl | rfl <;> rfl) ?_; intro w6 hr6 hg6 hz)
  have hbw1 := HB.out.trans (HB1.out.mono HB.out.size)
  have hbw5 := hbw1.trans (HB5.out.mono hbw1.size)
  have HBW := Lib.hid (below_grown hbw5 hg6 (by have := HG8.out; have := HGL.out; omega) hbw5.size)
  refine bodyPost_ret (results_tmp2 rfl _ _ _) rfl ?_
  exact ⟨rfl, HBW.out⟩

set_option maxRecDepth 100000 in
set_option maxHeartbeats 4000000 in
theorem cEnc_no (w : World) (c : Int) (D : Crv) (hc : crvOf c = some D) (vP : Value) (P : Option (Nat × Nat)) (hP : Pg w vP P) (hno : ¬ hasN D.p D.b P) :
    Calls Try.prog 21 #[.int .i64 c, vP] w fun e w' => e = .returned (.tuple #[.slice none 0 0, .bool false]) ∧ Below w.heap.size w w' := by
  have hmx : Try.prog.follows .mixedOrders = true := by kernel_rfl
  have hok := crv_ok hc
  obtain ⟨iP, bP, dP, rfl⟩ := hP.ex
  obtain ⟨W0, e0, r0, b0, s0⟩ := newS w 36 [.bool iP, bP, dP] _ rfl
  obtain ⟨gP, hgP⟩ : ∃ x, w.heap.size = x := ⟨_, rfl⟩
  obtain ⟨W1, e1, r1, b1, s1⟩ := newS W0 36 [.bool iP, bP, dP] _ rfl
  obtain ⟨gs, hgs⟩ : ∃ x, W0.heap.size = x := ⟨_, rfl⟩
  rw [hgP] at r0
  rw [hgs] at r1
  have hbw : Below w.heap.size w W1 := (b0).trans (b1.mono (b0).size)
  have qgP := (r0.later b1)
  have qgs := r1
  have HB := Lib.hid hbw
  have HGL := Lib.hid (show w.heap.size ≤ gP ∧ gP < W1.heap.size by omega)
  have hP3 := hP.later hbw
  have HPP := Lib.hid hP3
  have HRP := Lib.hid qgP
  have pp0 := r0.at_ (i := 0) rfl
  have p0 := qgP.at_ (i := 0) rfl
  have pp1 := r0.at_ (i := 1) rfl
  have p1 := qgP.at_ (i := 1) rfl
  have pp2 := r0.at_ (i := 2) rfl
  have p2 := qgP.at_ (i := 2) rfl
  have HDW := Lib.hid (domW_any W1 c D hc hok.1 gs 1 1 [(.bool iP, bP, dP)] [P] rfl (by decide) rfl (PtsV.one qgs) (by
    intro k a b d R h1 h2
    rcases k with _ | k
    · simp at h1 h2
      obtain ⟨rfl, rfl, rfl⟩ := h1
      subst h2
      exact hP3
    · simp at h1))
  have HOK := Lib.hid hok
  have Hhno := Lib.hid hno
  clear hno b0 s0 r0 b1 s1 r1 hbw qgP qgs hok hc hP hP3
  go_enter Try.func21, Try.ntmps21
  go_wp2_with fail
  refine HDW.out.mono ?_
  rintro e w1 (⟨vd, rfl, hvd, hall, hb1⟩ | ⟨rfl, ⟨R, hR, hRn⟩, hb1⟩)
  · exact absurd (hall P (by simp)) Hhno.out
  · clear hR hRn
    obtain ⟨W5, e5, r5, b5, s5⟩ := newS w1 59 [.int .i64 0, .slice none 0 0, .slice none 0 0, .slice none 0 0, .bool false, .slice none 0 0, .slice none 0 0] _ rfl
    obtain ⟨g8, hg8⟩ : ∃ x, w1.heap.size = x := ⟨_, rfl⟩
    rw [hg8] at r5
    have HB5 := Lib.hid b5
    have HB1 := Lib.hid hb1
    have HG8 := Lib.hid (show W1.heap.size ≤ g8 by have := hb1.size; omega)
    clear hb1 b5 s5 p0 p1 p2 pp0 pp1 pp2
    go_wp2_with ((with_reducible show wpList _ _ _ (⟨none, _, _, _, _, _⟩ :: _) _ _); refine wlS_store rfl 59 7 Try.sizeDom _ _ rfl g8 [.int .i64 0, .slice none 0 0, .slice none 0 0, .slice none 0 0, .bool false, .slice none 0 0, .slice none 0 0] rfl rfl 59 _ r5 rfl rfl (by intro v hv; simp only [List.mem_cons, List.not_mem_nil, or_false] at hv; rcases hv with rfl | rfl | rfl | rfl | rfl | rfl | rfl <;> rfl) ?_; intro w6 hr6 hg6 hz)
    have hbw1 := HB.out.trans (HB1.out.mono HB.out.size)
    have hbw5 := hbw1.trans (HB5.out.mono hbw1.size)
    have HBW := Lib.hid (below_grown hbw5 hg6 (by have := HG8.out; have := HGL.out; omega) hbw5.size)
    refine bodyPost_ret (results_tmp2 rfl _ _ _) rfl ?_
    exact ⟨rfl, HBW.out⟩

set_option maxRecDepth 100000 in
set_option maxHeartbeats 4000000 in
theorem cEnc_inf (w : World) (c : Int) (D : Crv) (hc : crvOf c = some D) (vP : Value) (P : Option (Nat × Nat)) (hP : Pg w vP P) (hPn : P = none) :
    Calls Try.prog 21 #[.int .i64 c, vP] w fun e w' => ∃ v, e = .returned (.tuple #[v, .bool true]) ∧ w'.ownsRow w.heap.size 5 1 v (encN D.size P).length ((encN D.size P).map W8) ∧ Below w.heap.size w w' := by
  have has : hasN D.p D.b P := by subst hPn; trivial
  have hmx : Try.prog.follows .mixedOrders = true := by kernel_rfl
  have hok := crv_ok hc
  obtain ⟨iP, bP, dP, rfl⟩ := hP.ex
  have hiP : iP = true := by
    subst hPn
    obtain ⟨a, b, e, _⟩ := hP
    injection e with e
    simp at e
    exact e.1
  subst hiP
  subst hPn
  obtain ⟨W0, e0, r0, b0, s0⟩ := newS w 36 [.bool true, bP, dP] _ rfl
  obtain ⟨gP, hgP⟩ : ∃ x, w.heap.size = x := ⟨_, rfl⟩
  obtain ⟨W1, e1, r1, b1, s1⟩ := newS W0 36 [.bool true, bP, dP] _ rfl
  obtain ⟨gs, hgs⟩ : ∃ x, W0.heap.size = x := ⟨_, rfl⟩
  rw [hgP] at r0
  rw [hgs] at r1
  have hbw : Below w.heap.size w W1 := (b0).trans (b1.mono (b0).size)
  have qgP := (r0.later b1)
  have qgs := r1
  have HB := Lib.hid hbw
  have HGL := Lib.hid (show w.heap.size ≤ gP ∧ gP < W1.heap.size by omega)
  have hP3 := hP.later hbw
  have HPP := Lib.hid hP3
  have HRP := Lib.hid qgP
  have pp0 := r0.at_ (i := 0) rfl
  have p0 := qgP.at_ (i := 0) rfl
  have pp1 := r0.at_ (i := 1) rfl
  have p1 := qgP.at_ (i := 1) rfl
  have pp2 := r0.at_ (i := 2) rfl
  have p2 := qgP.at_ (i := 2) rfl
  have HDW := Lib.hid (domW_any W1 c D hc hok.1 gs 1 1 [(.bool true, bP, dP)] [none] rfl (by decide) rfl (PtsV.one qgs) (by
    intro k a b d R h1 h2
    rcases k with _ | k
    · simp at h1 h2
      obtain ⟨rfl, rfl, rfl⟩ := h1
      subst h2
      exact hP3
    · simp at h1))
  have HOK := Lib.hid hok
  have Hhas := Lib.hid has
  clear has b0 s0 r0 b1 s1 r1 hbw qgP qgs hok hc hP hP3
  go_enter Try.func21, Try.ntmps21
  go_wp2_with fail
  refine HDW.out.mono ?_
  rintro e w1 (⟨vd, rfl, hvd, hall, hb1⟩ | ⟨rfl, ⟨R, hR, hRn⟩, hb1⟩)
  rotate_left
  · exfalso
    simp only [List.mem_cons, List.not_mem_nil, or_false] at hR
    subst hR
    exact hRn Hhas.out
  · skip
    obtain ⟨vp, vb, vn, vx, vy, rfl, k1, k2, k3, k4, k5⟩ := hvd
    obtain ⟨Ap, np, cp, rfl⟩ := k1.sl
    obtain ⟨Ab, nb, cb, rfl⟩ := k2.sl
    obtain ⟨An, nn, cn, rfl⟩ := k3.sl
    obtain ⟨Ax, nx, cx, rfl⟩ := k4.sl
    obtain ⟨Ay, ny, cy, rfl⟩ := k5.sl
    have HDM := Lib.hid (show Dm w1 _ D from ⟨_, _, _, _, _, rfl, k1, k2, k3, k4, k5⟩)
    obtain ⟨W5, e5, r5, b5, s5⟩ := newS w1 59 [.int .i64 0, .slice none 0 0, .slice none 0 0, .slice none 0 0, .bool false, .slice none 0 0, .slice none 0 0] _ rfl
    obtain ⟨g8, hg8⟩ : ∃ x, w1.heap.size = x := ⟨_, rfl⟩
    rw [hg8] at r5
    have HB5 := Lib.hid b5
    have HB1 := Lib.hid hb1
    have HG8 := Lib.hid (show W1.heap.size ≤ g8 by have := hb1.size; omega)
    have HNU := Lib.hid (NoU.of_row r5 (by intro v hv x; simp only [List.mem_cons, List.not_mem_nil, or_false] at hv; rcases hv with rfl | rfl | rfl | rfl | rfl | rfl | rfl <;> (intro h; cases h)))
    clear k1 k2 k3 k4 k5 hall hb1 b5 s5 p0 p1 p2 pp0 pp1 pp2
    go_wp2_with ((with_reducible show wpList _ _ _ (⟨none, _, _, _, _, _⟩ :: _) _ _); refine wlS_store rfl 59 7 Try.sizeDom _ _ rfl g8 [.int .i64 (D.size : Int), .slice Ap np cp, .slice Ab nb cb, .slice An nn cn, .bool false, .slice Ax nx cx, .slice Ay ny cy] rfl rfl 59 _ r5 rfl rfl (by intro v hv; simp only [List.mem_cons, List.not_mem_nil, or_false] at hv; rcases hv with rfl | rfl | rfl | rfl | rfl | rfl | rfl <;> rfl) ?_; intro w6 hr6 hg6 hz; have q6 := ((HRP.out.later HB1.out).later HB5.out).grown hg6 (by have := HG8.out; have := HGL.out; omega); have c0 := q6.at_ (i := 0) rfl; have c1 := q6.at_ (i := 1) rfl; have c2 := q6.at_ (i := 2) rfl; have f0 := hr6.at_ (i := 0) rfl; have HZZ := Lib.hid hz)
    have hsb : Sb W5 w6 := ⟨g8, HNU.out, hg6⟩
    have HDM6 := Lib.hid ((HDM.out.later HB5.out).sb hsb)
    have HP6 := Lib.hid (((HPP.out.later HB1.out).later HB5.out).sb hsb)
    have HRP6 := Lib.hid (((HRP.out.later HB1.out).later HB5.out).grown hg6 (by have := HG8.out; have := HGL.out; omega))
    have HR8 := Lib.hid hr6
    have hbw1 := HB.out.trans (HB1.out.mono HB.out.size)
    have hbw5 := hbw1.trans (HB5.out.mono hbw1.size)
    have HBW := Lib.hid (below_grown hbw5 hg6 (by have := HG8.out; have := HGL.out; omega) hbw5.size)
    clear hsb hbw1 hbw5 HDM HB5 HB1 HPP HRP hr6 hg6 hz HNU
    refine bodyPost_ret (results_tmp2 rfl _ _ _) rfl ?_
    have hr9 := RowV.new w6 5 [.int .u8 0]
    have hlt9 : w.heap.size ≤ w6.heap.size := HBW.out.size
    rw [HZZ.out] at hlt9
    have hr9' : (w6.alloc (.cells #[.int .u8 0] 5)).heap[W5.heap.size]? = some (.cells #[.int .u8 0] 5 (0, 0)) := by rw [← HZZ.out]; exact hr9
    refine ⟨_, rfl, ⟨rfl, .inr ⟨_, 1, #[.int .u8 0], rfl, hlt9, hr9', Nat.le_refl _, by decide, rfl, rfl⟩⟩, HBW.out.alloc HBW.out.size _⟩

set_option maxRecDepth 100000 in
set_option maxHeartbeats 4000000 in
theorem cEnc_yes (w : World) (c : Int) (D : Crv) (hc : crvOf c = some D) (vP : Value) (P : Option (Nat × Nat)) (hP : Pg w vP P) (x y : Nat) (hPs : P = some (x, y)) (has : hasN D.p D.b P) (hs0 : 0 < D.size) (hs1 : D.size ≤ 65536) (hs2 : D.p < 256 ^ D.size) :
    Calls Try.prog 21 #[.int .i64 c, vP] w fun e w' => ∃ v, e = .returned (.tuple #[v, .bool true]) ∧ w'.ownsRow w.heap.size 5 1 v (encN D.size P).length ((encN D.size P).map W8) ∧ Below w.heap.size w w' := by
  have HSZ := Lib.hid (show 0 < D.size ∧ D.size ≤ 65536 ∧ D.p < 256 ^ D.size from ⟨hs0, hs1, hs2⟩)
  clear hs0 hs1 hs2
  have hmx : Try.prog.follows .mixedOrders = true := by kernel_rfl
  have hok := crv_ok hc
  obtain ⟨iP, bP, dP, rfl⟩ := hP.ex
  have hiP : iP = false := by
    subst hPs
    obtain ⟨a, b, e, _⟩ := hP
    injection e with e
    simp at e
    exact e.1
  subst hiP
  subst hPs
  obtain ⟨W0, e0, r0, b0, s0⟩ := newS w 36 [.bool false, bP, dP] _ rfl
  obtain ⟨gP, hgP⟩ : ∃ x, w.heap.size = x := ⟨_, rfl⟩
  obtain ⟨W1, e1, r1, b1, s1⟩ := newS W0 36 [.bool false, bP, dP] _ rfl
  obtain ⟨gs, hgs⟩ : ∃ x, W0.heap.size = x := ⟨_, rfl⟩
  rw [hgP] at r0
  rw [hgs] at r1
  have hbw : Below w.heap.size w W1 := (b0).trans (b1.mono (b0).size)
  have qgP := (r0.later b1)
  have qgs := r1
  have HB := Lib.hid hbw
  have HGL := Lib.hid (show w.heap.size ≤ gP ∧ gP < W1.heap.size by omega)
  have hP3 := hP.later hbw
  have HPP := Lib.hid hP3
  have HRP := Lib.hid qgP
  have pp0 := r0.at_ (i := 0) rfl
  have p0 := qgP.at_ (i := 0) rfl
  have pp1 := r0.at_ (i := 1) rfl
  have p1 := qgP.at_ (i := 1) rfl
  have pp2 := r0.at_ (i := 2) rfl
  have p2 := qgP.at_ (i := 2) rfl
  have HDW := Lib.hid (domW_any W1 c D hc hok.1 gs 1 1 [(.bool false, bP, dP)] [some (x, y)] rfl (by decide) rfl (PtsV.one qgs) (by
    intro k a b d R h1 h2
    rcases k with _ | k
    · simp at h1 h2
      obtain ⟨rfl, rfl, rfl⟩ := h1
      subst h2
      exact hP3
    · simp at h1))
  have HOK := Lib.hid hok
  have Hhas := Lib.hid has
  clear has b0 s0 r0 b1 s1 r1 hbw qgP qgs hok hc hP hP3
  go_enter Try.func21, Try.ntmps21
  go_wp2_with fail
  refine HDW.out.mono ?_
  rintro e w1 (⟨vd, rfl, hvd, hall, hb1⟩ | ⟨rfl, ⟨R, hR, hRn⟩, hb1⟩)
  rotate_left
  · exfalso
    simp only [List.mem_cons, List.not_mem_nil, or_false] at hR
    subst hR
    exact hRn Hhas.out
  · skip
    obtain ⟨vp, vb, vn, vx, vy, rfl, k1, k2, k3, k4, k5⟩ := hvd
    obtain ⟨Ap, np, cp, rfl⟩ := k1.sl
    obtain ⟨Ab, nb, cb, rfl⟩ := k2.sl
    obtain ⟨An, nn, cn, rfl⟩ := k3.sl
    obtain ⟨Ax, nx, cx, rfl⟩ := k4.sl
    obtain ⟨Ay, ny, cy, rfl⟩ := k5.sl
    have HDM := Lib.hid (show Dm w1 _ D from ⟨_, _, _, _, _, rfl, k1, k2, k3, k4, k5⟩)
    obtain ⟨W5, e5, r5, b5, s5⟩ := newS w1 59 [.int .i64 0, .slice none 0 0, .slice none 0 0, .slice none 0 0, .bool false, .slice none 0 0, .slice none 0 0] _ rfl
    obtain ⟨g8, hg8⟩ : ∃ x, w1.heap.size = x := ⟨_, rfl⟩
    rw [hg8] at r5
    have HB5 := Lib.hid b5
    have HB1 := Lib.hid hb1
    have HG8 := Lib.hid (show W1.heap.size ≤ g8 by have := hb1.size; omega)
    have HNU := Lib.hid (NoU.of_row r5 (by intro v hv x; simp only [List.mem_cons, List.not_mem_nil, or_false] at hv; rcases hv with rfl | rfl | rfl | rfl | rfl | rfl | rfl <;> (intro h; cases h)))
    clear k1 k2 k3 k4 k5 hall hb1 b5 s5 p0 p1 p2 pp0 pp1 pp2
    go_wp2_with ((with_reducible show wpList _ _ _ (⟨none, _, _, _, _, _⟩ :: _) _ _); refine wlS_store rfl 59 7 Try.sizeDom _ _ rfl g8 [.int .i64 (D.size : Int), .slice Ap np cp, .slice Ab nb cb, .slice An nn cn, .bool false, .slice Ax nx cx, .slice Ay ny cy] rfl rfl 59 _ r5 rfl rfl (by intro v hv; simp only [List.mem_cons, List.not_mem_nil, or_false] at hv; rcases hv with rfl | rfl | rfl | rfl | rfl | rfl | rfl <;> rfl) ?_; intro w6 hr6 hg6 hz; have q6 := ((HRP.out.later HB1.out).later HB5.out).grown hg6 (by have := HG8.out; have := HGL.out; omega); have c0 := q6.at_ (i := 0) rfl; have c1 := q6.at_ (i := 1) rfl; have c2 := q6.at_ (i := 2) rfl; have f0 := hr6.at_ (i := 0) rfl)
    have hsb : Sb W5 w6 := ⟨g8, HNU.out, hg6⟩
    have HDM6 := Lib.hid ((HDM.out.later HB5.out).sb hsb)
    have HP6 := Lib.hid (((HPP.out.later HB1.out).later HB5.out).sb hsb)
    have HRP6 := Lib.hid (((HRP.out.later HB1.out).later HB5.out).grown hg6 (by have := HG8.out; have := HGL.out; omega))
    have HR8 := Lib.hid hr6
    have hbw1 := HB.out.trans (HB1.out.mono HB.out.size)
    have hbw5 := hbw1.trans (HB5.out.mono hbw1.size)
    have HBW := Lib.hid (below_grown hbw5 hg6 (by have := HG8.out; have := HGL.out; omega) hbw5.size)
    clear hsb hbw1 hbw5 HDM HB5 HB1 HPP HRP hr6 hg6 hz HNU
    have hxy : NumR w6 64 x bP ∧ NumR w6 64 y dP := by
      obtain ⟨b', d', he, hx, hy⟩ := HP6.out
      injection he with he
      simp at he
      obtain ⟨rfl, rfl⟩ := he
      exact ⟨hx, hy⟩
    have HXY := Lib.hid hxy
    have HBX := Lib.hid (bytes_u w6 bP x hxy.1 D.size HSZ.out.2.1 (Nat.lt_trans Hhas.out.1 HSZ.out.2.2) HSZ.out.1)
    clear hxy c0 c1 f0 q6 c2
    refine HBX.out.mono ?_
    rintro e w7 ⟨gx, rfl, hrx, hb7⟩
    have HRX := Lib.hid hrx
    have c27 := (HRP6.out.later hb7).at_ (i := 2) rfl
    have f07 := (HR8.out.later hb7).at_ (i := 0) rfl
    have HB7 := Lib.hid (HBW.out.trans (hb7.mono HBW.out.size))
    have HBY := Lib.hid (bytes_u w7 dP y (HXY.out.2.later hb7) D.size HSZ.out.2.1 (Nat.lt_trans Hhas.out.2.1 HSZ.out.2.2) HSZ.out.1)
    clear hrx hb7
    go_wp2_with fail
    refine HBY.out.mono ?_
    rintro e w8 ⟨gy, rfl, hry, hb8⟩
    obtain ⟨W9, e9, r9, b9, s9⟩ := newS w8 5 [.int .u8 4] _ rfl
    obtain ⟨g9, hg9⟩ : ∃ z, w8.heap.size = z := ⟨_, rfl⟩
    rw [hg9] at r9
    obtain ⟨W10, e10, r10, b10, s10⟩ := newS W9 50 [.slice (some ⟨g9, 0, none⟩) 1 1, .slice (some ⟨gx, 0, none⟩) D.size D.size, .slice (some ⟨gy, 0, none⟩) D.size D.size] _ rfl
    obtain ⟨g10, hg10⟩ : ∃ z, W9.heap.size = z := ⟨_, rfl⟩
    rw [hg10] at r10
    have hrx8 := ((HRX.out.later hb8).later b9).later b10
    have hry8 := (hry.later b9).later b10
    have hr98 := r9.later b10
    have hB8 := HB7.out.trans (hb8.mono HB7.out.size)
    have hB9 := hB8.trans (b9.mono hB8.size)
    have HB10 := Lib.hid (hB9.trans (b10.mono hB9.size))
    have hlx : ((beW D.size x).map W8).length = D.size := by simp [beW, be_length]
    have hly : ((beW D.size y).map W8).length = D.size := by simp [beW, be_length]
    have sx := hrx8.sl (by rw [hlx]; have := HSZ.out.2.1; omega)
    have sy := hry8.sl (by rw [hly]; have := HSZ.out.2.1; omega)
    have s4 : SlV W10 W10.heap.size (some ⟨g9, 0, none⟩) 1 1 [W8 4] := hr98.sl (by simp)
    rw [hlx] at sx
    rw [hly] at sy
    have hsl := r10.sl (by simp)
    have hpart : PartsV W10 W10.heap.size (some ⟨g10, 0, none⟩) 3 3 [[4], beW D.size x, beW D.size y] := by
      refine ⟨_, hsl, rfl, fun i v ps hv hp => ?_⟩
      rcases i with _ | _ | _ | i
      · simp at hv hp
        subst hv hp
        exact ⟨_, _, _, rfl, s4, fun h => by cases h⟩
      · simp at hv hp
        subst hv hp
        exact ⟨_, _, _, rfl, sx, fun h => by cases h⟩
      · simp at hv hp
        subst hv hp
        exact ⟨_, _, _, rfl, sy, fun h => by cases h⟩
      · simp at hv
    have HC := Lib.hid (concat_any W10 _ _ 3 3 _ hpart (Nat.le_refl _) (by decide) (by simp [beW, be_length]; have := HSZ.out.2.1; omega))
    clear hpart hsl s4 sx sy hlx hly hB8 hB9 hrx8 hry8 hr98 r9 r10 b9 b10 s9 s10 hry hb8 c27 f07
    go_wp2_with fail
    refine HC.out.mono ?_
    rintro e w11 ⟨v, rfl, hown, hb11⟩
    have HOWN := Lib.hid hown
    have HB11 := Lib.hid hb11
    clear hown hb11
    go_wp2
    refine bodyPost_ret (results_tmp2 rfl _ _ _) rfl ?_
    have hfl : [[(4 : BitVec 8)], beW D.size x, beW D.size y].flatten = encN D.size (some (x, y)) := by simp [encN]
    have h1 := HOWN.out
    rw [hfl] at h1
    refine ⟨v, rfl, ?_, HB10.out.trans (HB11.out.mono HB10.out.size)⟩
    exact own_base h1 HB10.out.size

end Go.Proofs.Ytmmmcbklgmjalaa

/- A region that draws its order and whose last operation, behind all the others, may turn what it likes. -/
set_option linter.unusedVariables false
set_option linter.unusedSimpArgs false
namespace Go.Proofs.Ytmmmcbklgmjalaa
open Go.RowKit

/-- a condition on a value that growth alone keeps -/
structure SpB where
  P : Value → World → Prop
  later : ∀ v V V', Below V.heap.size V V' → P v V → P v V'
def SpB.val (c : Value) : SpB := ⟨fun v _ => v = c, fun _ _ _ _ h => h⟩
def SpB.num (k : Nat) : SpB := ⟨fun v V => Nu V v k, fun _ _ _ hb h => h.later hb⟩
/-- a new row beyond N -/
def SpB.row (t : TypeId) (N : Nat) (vs : List Value) : SpB := ⟨fun v V => ∃ g, v = .pointer (some ⟨g, 0, none⟩) ∧ N ≤ g ∧ RowV t V g vs, fun _ _ _ hb h => by
  obtain ⟨g, e, hN, hr⟩ := h
  exact ⟨g, e, hN, hr.later hb⟩⟩
def SpB.of (s : Spc) : SpB := ⟨s.P, fun v V V' hb h => s.sb v V V' (Sb.of_below hb) h⟩
def spbAt (L : List (Nat × SpB)) (t : Nat) (v : Value) (V : World) : Prop := match L.lookup t with
  | some s => s.P v V
  | none => True
theorem spbAt.later {L : List (Nat × SpB)} {t : Nat} {v : Value} {V V' : World} (hb : Below V.heap.size V V') (h : spbAt L t v V) : spbAt L t v V' := by
  unfold spbAt at h ⊢
  cases hl : L.lookup t with
  | none => trivial
  | some s =>
    rw [hl] at h
    exact s.later v V V' hb h
def OpOkB (F : Fence) (n : Nat) (P : Program) (L : List (Nat × SpB)) (a' : Act) (V : World) (o : Oper) : Prop :=
  (∀ c, o.op ≠ .defer c) ∧ (∀ f, o.about P V a'.eval = some f → F.fn f) ∧ o.dst ≠ none ∧
    ((∃ v V', (execOp a'.eval o).run P V = .ok (.value v) V' ∧ Below V.heap.size V V' ∧ ∀ t, o.dst = some t → spbAt L t v V') ∨
      ∃ f args, (execOp a'.eval o).run P V = .ok (.enter f args) V ∧ CallsIn F (n - 1) P f args V fun e w' => ∃ v, e = .returned v ∧ Below V.heap.size V w' ∧ ∀ t, o.dst = some t → spbAt L t v w')
theorem wpIn_region_numB {F : Fence} {n : Nat} {P : Program} {id : Nat} {ops : Array Oper} {Q : Exit → Act → World → Prop} {a : Act} {w : World} (hF : F.depth = none) (hm : P.follows .mixedOrders = true)
    (L : List (Nat × SpB)) (hd : distinctB ops = true) (hdep : depsW ops (L.map (·.1)) [] = true) (hon : onlyB ops (L.map (·.1)) = true) (hord : orderedB ops = true) (hsz : (L.map (·.1)).all (fun t => decide (t < a.tmps.size)) = true)
    (s : Nat) (hs : s + 1 = ops.size) (hroot : rootB ops s = true)
    (hops : ∀ (i : Nat) (o : Oper) (a' : Act) (V : World), i < s → Below w.heap.size w V → ops[i]? = some o → (∀ t, (L.map (·.1)).contains t = false → a'.eval (.tmp t) = a.eval (.tmp t)) → (∀ t, readsB o t = true → (L.map (·.1)).contains t = true → spbAt L t (a'.eval (.tmp t)) V) → OpOkB F n P L a' V o)
    (hlast : ∀ (vals : Nat → Value) (o : Oper) (a' : Act) (V : World), Below w.heap.size w V → ops[s]? = some o → (∀ t, (L.map (·.1)).contains t = false → a'.eval (.tmp t) = a.eval (.tmp t)) →
      (∀ t, readsB o t = true → (L.map (·.1)).contains t = true → ∃ (j : Nat) (oj : Oper), ops[j]? = some oj ∧ oj.dst = some t ∧ a'.eval (.tmp t) = vals j) → (∀ (i t : Nat) (o : Oper), i < s → ops[i]? = some o → o.dst = some t → spbAt L t (vals i) V) →
      (∀ c, o.op ≠ .defer c) ∧ (∀ f, o.about P V a'.eval = some f → F.fn f) ∧ ∃ v W2, ((execOp a'.eval o).run P V = .ok .skip W2 ∧ v = undef ∨ (execOp a'.eval o).run P V = .ok (.value v) W2) ∧
        Q .normal { tmps := wrote ops (fun j => if j = s then v else vals j) (Array.replicate ops.size true) a.tmps ops.size, defers := a.defers } W2) : (Code.region id ops true).wpIn F n P Q a w := by
  have hd' := distinct_of hd
  have hclose : ∀ (L : Array Bool), L.size = ops.size → (∀ (j : Nat) (oj : Oper), ops[j]? = some oj → L.getD j false = true → ∀ e ∈ oj.after, Region.binds .any e = true → L.getD e.on false = true) → L.getD s false = true → ∀ k i, i + k = s → L.getD i false = true := by
    intro L hsz hcl hL k
    induction k using Nat.strongRecOn with
    | _ k ih =>
      intro i hik
      rcases Nat.eq_zero_or_pos k with h0 | h0
      · obtain rfl : i = s := by omega
        exact hL
      · simp only [rootB, List.all_eq_true, List.mem_range] at hroot
        have h1 := hroot i (by omega)
        rw [List.any_eq_true] at h1
        obtain ⟨j, hj, h2⟩ := h1
        rw [List.mem_range] at hj
        rw [Bool.and_eq_true, decide_eq_true_eq] at h2
        have hjl := ih (s - j) (by omega) j (by omega)
        cases ho : ops[j]? with
        | none => rw [ho] at h2; simp at h2
        | some o =>
          rw [ho] at h2
          obtain ⟨e, he, he2⟩ := Array.any_eq_true'.1 h2.2
          rw [Bool.and_eq_true, beq_iff_eq] at he2
          have := hcl j o ho hjl e he he2.2
          rwa [he2.1] at this
  refine wpIn_region_relH hm hd' (fun b : Nat → Value => b) (fun b Ls V => (Ls.getD s false = false → Below w.heap.size w V ∧ ∀ (j t : Nat) (o : Oper), ops[j]? = some o → o.dst = some t → Ls.getD j false = true → spbAt L t (b j) V) ∧
      (Ls.getD s false = true → Q .normal { tmps := wrote ops b (Array.replicate ops.size true) a.tmps ops.size, defers := a.defers } V)) (fun _ => undef) ⟨fun _ => ⟨below_drewN (Below.refl _ w) 1, ?_⟩, fun h => ?_⟩ ?_ ?_ (acyclic_of hord)
  · intro j t o _ _ hL
    rw [getD_rep] at hL
    cases hL
  · rw [getD_rep] at h
    cases h
  · rintro b Ls a' V ⟨hV0, -⟩ hLs hdf hcl hold hnew i hi o ho K hK
    obtain ⟨h1, o2, ho2, hde⟩ := mem_ready.1 hi
    obtain rfl : o = o2 := Option.some.inj (ho.symm.trans ho2)
    have hnl := unlisted h1
    have his : i ≤ s := by have := (Array.getElem?_eq_some_iff.1 ho).1; omega
    have hLf : Ls.getD s false = false := by
      apply Classical.byContradiction
      intro h
      have := hclose Ls hLs hcl (by simpa using h) (s - i) i (by omega)
      rw [hnl] at this
      cases this
    obtain ⟨hIV, hPV⟩ := hV0 hLf
    obtain ⟨hg, hev, hrd⟩ := tree_reads hdep hon hsz hold hnew ho hde
    have hrd' : ∀ t, readsB o t = true → (L.map (·.1)).contains t = true → spbAt L t (a'.eval (.tmp t)) V := by
      intro t h2 h3
      obtain ⟨j, oj, hj, hjd, hjL, e⟩ := hrd t h2 h3
      rw [e]
      exact hPV j t oj hj hjd hjL
    rcases Nat.lt_or_ge i s with his' | his'
    · obtain ⟨hdef, hab, -, hrun⟩ := hops i o a' V his' hIV ho hev hrd'
      have hnext : ∀ v V', Below V.heap.size V V' → (∀ t, o.dst = some t → spbAt L t v V') → K (a'.put o.dst v) V' := by
        intro v V' hB hP
        have hk := hK (fun j => if j = i then v else b j) V' (fun j hj => by
          rw [if_neg]
          rintro rfl
          rw [hnl] at hj; cases hj) ⟨fun _ => ⟨hIV.trans (hB.mono hIV.size), fun j t oj hj hjd hjL => by
            by_cases hji : j = i
            · subst hji
              obtain rfl : o = oj := Option.some.inj (ho.symm.trans hj)
              simp only [if_true]
              exact hP t hjd
            · rw [getD_set_ne Ls (fun h => hji h.symm)] at hjL
              simp only [if_neg hji]
              exact (hPV j t oj hj hjd hjL).later hB⟩, fun h => by
            rw [getD_set_ne Ls (by omega), hLf] at h
            cases h⟩
        simpa using hk
      rcases hrun with ⟨v, V', hrun, hB, hP⟩ | ⟨f, args, hrun, hcall⟩
      · exact in_value ho hg hdef hab hrun (hnext v V' hB hP)
      · refine in_call_any ho hg hdef hF hab hrun (hcall.mono ?_)
        rintro e w' ⟨v, rfl, hB, hP⟩
        exact ⟨v, rfl, hnext v w' hB hP⟩
    · obtain rfl : i = s := by omega
      have hall : ∀ j, j < i → Ls.getD j false = true := by
        intro j hj
        simp only [rootB, List.all_eq_true, List.mem_range] at hroot
        have hdown : ∀ k j, j + k = i → 0 < k → Ls.getD j false = true := by
          intro k
          induction k using Nat.strongRecOn with
          | _ k ih =>
            intro j hjk h0
            have h1 := hroot j (by omega)
            rw [List.any_eq_true] at h1
            obtain ⟨m, hm', h2⟩ := h1
            rw [List.mem_range] at hm'
            rw [Bool.and_eq_true, decide_eq_true_eq] at h2
            by_cases hmi : m = i
            · subst hmi
              rw [ho] at h2
              obtain ⟨e, he, he2⟩ := Array.any_eq_true'.1 h2.2
              rw [Bool.and_eq_true, beq_iff_eq] at he2
              have := hde e he he2.2
              rwa [he2.1] at this
            · have hml := ih (i - m) (by omega) m (by omega) (by omega)
              cases hom : ops[m]? with
              | none => rw [hom] at h2; simp at h2
              | some om =>
                rw [hom] at h2
                obtain ⟨e, he, he2⟩ := Array.any_eq_true'.1 h2.2
                rw [Bool.and_eq_true, beq_iff_eq] at he2
                have := hcl m om hom hml e he he2.2
                rwa [he2.1] at this
        exact hdown (i - j) j (by omega) (by omega)
      obtain ⟨hdef, hab, v, W2, hrun, hQ⟩ := hlast b o a' V hIV ho hev (fun t h2 h3 => by
        obtain ⟨j, oj, hj, hjd, hjL, e⟩ := hrd t h2 h3
        exact ⟨j, oj, hj, hjd, e⟩) fun j t oj hj hoj hjd => hPV j t oj hoj hjd (hall j hj)
      have hk := hK (fun j => if j = i then v else b j) W2 (fun j hj => by
        rw [if_neg]
        rintro rfl
        rw [hnl] at hj; cases hj) ⟨fun h => absurd h (by rw [getD_set_self Ls (by omega)]; simp), fun _ => hQ⟩
      simp only [if_true] at hk
      rcases hrun with ⟨hrun, rfl⟩ | hrun
      · exact in_skip ho hg hdef hab hrun hk
      · exact in_value ho hg hdef hab hrun hk
  · rintro b Ls V ⟨-, h⟩ hL
    exact h (hL s (by omega))
end Go.Proofs.Ytmmmcbklgmjalaa

/- curve: Decode. -/
set_option linter.unusedVariables false
set_option linter.unusedSimpArgs false
namespace Go.Proofs.Ytmmmcbklgmjalaa
open Go.RowKit

def natsB (bs : List (BitVec 8)) : List Nat := bs.map BitVec.toNat
theorem sl8_of_slVB {w : World} {B n c : Nat} {A : Option Addr} {bs : List (BitVec 8)} (h : SlV w B A n c (bs.map W8)) : Sl8 w B A n c (natsB bs) := by
  refine ⟨by rw [natsB, List.length_map]; simpa using h.len, h.cap, h.max, fun x hx => ?_, fun hn => ?_⟩
  · obtain ⟨y, _, rfl⟩ := List.mem_map.1 hx
    exact y.isLt
  · obtain ⟨b, off, e, hb, hc⟩ := h.2.2.2 (by intro e; apply hn; rw [List.map_eq_nil_iff] at e; rw [natsB, e]; rfl)
    refine ⟨b, off, e, hb, fun k x hx => ?_⟩
    rw [natsB, List.getElem?_map, Option.map_eq_some_iff] at hx
    obtain ⟨y, hy, rfl⟩ := hx
    exact hc k (W8 y) (by rw [List.getElem?_map, hy]; rfl)
/-- the number that bytes are, the highest first -/
def numB (bs : List (BitVec 8)) : Nat := V 256 (natsB bs).reverse
theorem fromb_u (w : World) (A : Option Addr) (n c : Nat) (bs : List (BitVec 8)) (hs : SlV w w.heap.size A n c (bs.map W8)) (hn : n ≤ 500) : Calls Try.prog 37 #[.slice A n c] w fun e w' => RetU w (numB bs) e w' := by
  refine (frombytes_any w _ (Nat.le_refl _) A n c (natsB bs) (sl8_of_slVB hs) (by omega)).mono ?_
  rintro e w' ⟨zs, hz, A3, n3, c3, rfl, hs3, hB⟩
  refine ⟨_, rfl, Nu.of hs3 hz ?_, hB⟩
  have h1 : V 256 (natsB bs).reverse < 256 ^ (natsB bs).reverse.length := V_lt _ (fun x hx => by
    rw [List.mem_reverse] at hx
    obtain ⟨y, _, rfl⟩ := List.mem_map.1 hx
    exact y.isLt)
  have hl : (natsB bs).reverse.length = n := by
    have := hs.len
    simp [natsB] at this ⊢
    omega
  rw [hl] at h1
  exact Nat.lt_of_lt_of_le h1 (Nat.le_trans (Nat.pow_le_pow_right (by decide) hn) (by decide +kernel))
/-- what the bytes are read as, if at all -/
def decN (D : Crv) (bs : List (BitVec 8)) : Option (Option (Nat × Nat)) :=
  if bs = [0] then some none
  else if bs[0]? = some 4 ∧ bs.length = 1 + 2 * D.size ∧ hasN D.p D.b (some (numB ((bs.drop 1).take D.size), numB (bs.drop (1 + D.size)))) then some (some (numB ((bs.drop 1).take D.size), numB (bs.drop (1 + D.size))))
  else none
theorem SlV.grownV {w w' : World} {n c g : Nat} {A : Option Addr} {vs : List Value} (h : SlV w w.heap.size A n c vs) (hg : w.grownBy w' (some g)) (hne : ∀ b off s, A = some ⟨b, off, s⟩ → b ≠ g) : SlV w' w'.heap.size A n c vs := by
  obtain ⟨h1, h2, h3, h4⟩ := h
  refine ⟨h1, h2, h3, fun hn => ?_⟩
  obtain ⟨b, off, e, hb, hc⟩ := h4 hn
  exact ⟨b, off, e, Nat.lt_of_lt_of_le hb hg.size, fun k x hx => (cell_grown hg (p := ⟨b, off + k, none⟩) hb (hne b off none e)).trans (hc k x hx)⟩
theorem SlV.first {w : World} {B n c bq off : Nat} {v : Value} {vs : List Value} (h : SlV w B (some ⟨bq, off, none⟩) n c (v :: vs)) : w.cell? ⟨bq, off, none⟩ = some v := by
  obtain ⟨b, o, e, _, hc⟩ := h.2.2.2 (by simp)
  injection e with e
  injection e with e1 e2
  subst e1 e2
  exact hc 0 v rfl

set_option maxRecDepth 100000 in
set_option maxHeartbeats 4000000 in
theorem cDec_none (w : World) (c : Int) (hc : crvOf c = none) (A : Option Addr) (n cp : Nat) (bs : List (BitVec 8)) (hs : SlV w w.heap.size A n cp (bs.map W8)) (hn : n ≤ 500) :
    Calls Try.prog 22 #[.int .i64 c, .slice A n cp] w fun e w' => e = .returned (.tuple #[inf0, .bool false]) ∧ Below w.heap.size w w' := by
  have hmx : Try.prog.follows .mixedOrders = true := by kernel_rfl
  obtain ⟨W0, e0, r0, b0, s0⟩ := newS w 36 [.bool false, .slice none 0 0, .slice none 0 0] _ rfl
  obtain ⟨gr, hgr⟩ : ∃ x, w.heap.size = x := ⟨_, rfl⟩
  rw [hgr] at r0
  have HB := Lib.hid b0
  have HR := Lib.hid r0
  have HGL := Lib.hid (show w.heap.size ≤ gr by omega)
  have hs0 := hs.later b0 (Nat.le_refl _)
  have HS := Lib.hid hs0
  have HD := Lib.hid (domOf_no W0 c hc)
  clear b0 s0 r0 hc hs hs0 
  go_enter Try.func22, Try.ntmps22
  go_wp2_with fail
  refine HD.out.mono ?_
  rintro e w1 ⟨rfl, hb1⟩
  obtain ⟨W5, e5, r5, b5, s5⟩ := newS w1 59 [.int .i64 0, .slice none 0 0, .slice none 0 0, .slice none 0 0, .bool false, .slice none 0 0, .slice none 0 0] _ rfl
  obtain ⟨g8, hg8⟩ : ∃ x, w1.heap.size = x := ⟨_, rfl⟩
  rw [hg8] at r5
  have HB5 := Lib.hid b5
  have HB1 := Lib.hid hb1
  have HG8 := Lib.hid (show w1.heap.size ≤ g8 by omega)
  have HNU := Lib.hid (NoU.of_row r5 (by intro v hv x; simp only [List.mem_cons, List.not_mem_nil, or_false] at hv; rcases hv with rfl | rfl | rfl | rfl | rfl | rfl | rfl <;> (intro h; cases h)))
  have HRG := Lib.hid ((HR.out.later hb1).later b5)
  have HNR := Lib.hid (show gr ≠ g8 by have := (HR.out.later hb1).lt; omega)
  have hs5 := (HS.out.later hb1 (Nat.le_refl _)).later b5 (Nat.le_refl _)
  have HS5 := Lib.hid hs5
  clear hb1 b5 s5 hs5
  go_wp2_with ((with_reducible show wpList _ _ _ (⟨none, _, _, _, _, _⟩ :: _) _ _); refine wlS_store rfl 59 7 Try.sizeDom _ _ rfl g8 [.int .i64 0, .slice none 0 0, .slice none 0 0, .slice none 0 0, .bool false, .slice none 0 0, .slice none 0 0] rfl rfl 59 _ r5 rfl rfl (by intro v hv; simp only [List.mem_cons, List.not_mem_nil, or_false] at hv; rcases hv with rfl | rfl | rfl | rfl | rfl | rfl | rfl <;> rfl) ?_; intro w6 hr6 hg6 hz)
  have hbw1 := HB.out.trans (HB1.out.mono HB.out.size)
  have hbw5 := hbw1.trans (HB5.out.mono hbw1.size)
  have HB6 := Lib.hid (below_grown hbw5 hg6 (by have := HG8.out; have := hbw1.size; omega) hbw5.size)
  have HR6 := Lib.hid (HRG.out.grown hg6 HNR.out)
  clear hbw1 hbw5
  refine (cinf_any w6).mono ?_
  rintro e w7 ⟨rfl, hb7⟩
  have hr7 := HR6.out.later hb7
  have HB7 := Lib.hid (HB6.out.trans (hb7.mono HB6.out.size))
  clear hb7
  go_wp2_with ((with_reducible show wpList _ _ _ (⟨none, _, _, _, _, _⟩ :: _) _ _); refine wlS_store rfl 36 3 Try.sizePt _ _ rfl gr [.bool true, .slice none 0 0, .slice none 0 0] rfl rfl 36 _ hr7 rfl rfl (ones3 rfl rfl rfl) ?_; intro w8 hr8 hg8w hz)
  refine ⟨rfl, _, results_pt2 rfl _ gr _ rfl hr8 rfl, rfl, below_grown HB7.out hg8w HGL.out HB7.out.size⟩

set_option maxRecDepth 100000 in
set_option maxHeartbeats 4000000 in
theorem cDec_nil (w : World) (c : Int) (D : Crv) (hc : crvOf c = some D) (A : Option Addr) (cp : Nat) (bs : List (BitVec 8)) (hs : SlV w w.heap.size A 0 cp (bs.map W8)) :
    Calls Try.prog 22 #[.int .i64 c, .slice A 0 cp] w fun e w' => e = .returned (.tuple #[inf0, .bool false]) ∧ Below w.heap.size w w' := by
  have hmx : Try.prog.follows .mixedOrders = true := by kernel_rfl
  have hok := crv_ok hc
  have HOK := Lib.hid hok
  obtain ⟨W0, e0, r0, b0, s0⟩ := newS w 36 [.bool false, .slice none 0 0, .slice none 0 0] _ rfl
  obtain ⟨gr, hgr⟩ : ∃ x, w.heap.size = x := ⟨_, rfl⟩
  rw [hgr] at r0
  have HB := Lib.hid b0
  have HR := Lib.hid r0
  have HGL := Lib.hid (show w.heap.size ≤ gr by omega)
  have hs0 := hs.later b0 (Nat.le_refl _)
  have HS := Lib.hid hs0
  have HD := Lib.hid (domOf_yes W0 c D hc)
  clear b0 s0 r0 hc hs hs0 hok 
  go_enter Try.func22, Try.ntmps22
  go_wp2_with fail
  refine HD.out.mono ?_
  rintro e w1 ⟨vd, rfl, hvd, hb1⟩
  obtain ⟨vp, vb, vn, vx, vy, rfl, k1, k2, k3, k4, k5⟩ := hvd
  obtain ⟨Ap, np, cp', rfl⟩ := k1.sl
  obtain ⟨Ab, nb, cb, rfl⟩ := k2.sl
  obtain ⟨An, nn, cn, rfl⟩ := k3.sl
  obtain ⟨Ax, nx, cx, rfl⟩ := k4.sl
  obtain ⟨Ay, ny, cy, rfl⟩ := k5.sl
  have HDM := Lib.hid (show Dm w1 _ D from ⟨_, _, _, _, _, rfl, k1, k2, k3, k4, k5⟩)
  obtain ⟨W5, e5, r5, b5, s5⟩ := newS w1 59 [.int .i64 0, .slice none 0 0, .slice none 0 0, .slice none 0 0, .bool false, .slice none 0 0, .slice none 0 0] _ rfl
  obtain ⟨g8, hg8⟩ : ∃ x, w1.heap.size = x := ⟨_, rfl⟩
  rw [hg8] at r5
  have HB5 := Lib.hid b5
  have HB1 := Lib.hid hb1
  have HG8 := Lib.hid (show w1.heap.size ≤ g8 by omega)
  have HNU := Lib.hid (NoU.of_row r5 (by intro v hv x; simp only [List.mem_cons, List.not_mem_nil, or_false] at hv; rcases hv with rfl | rfl | rfl | rfl | rfl | rfl | rfl <;> (intro h; cases h)))
  have HRG := Lib.hid ((HR.out.later hb1).later b5)
  have HNR := Lib.hid (show gr ≠ g8 by have := (HR.out.later hb1).lt; omega)
  have hs5 := (HS.out.later hb1 (Nat.le_refl _)).later b5 (Nat.le_refl _)
  have HS5 := Lib.hid hs5
  clear hb1 b5 s5 hs5 k1 k2 k3 k4 k5
  go_wp2_with ((with_reducible show wpList _ _ _ (⟨none, _, _, _, _, _⟩ :: _) _ _); refine wlS_store rfl 59 7 Try.sizeDom _ _ rfl g8 [.int .i64 (D.size : Int), .slice Ap np cp', .slice Ab nb cb, .slice An nn cn, .bool false, .slice Ax nx cx, .slice Ay ny cy] rfl rfl 59 _ r5 rfl rfl (by intro v hv; simp only [List.mem_cons, List.not_mem_nil, or_false] at hv; rcases hv with rfl | rfl | rfl | rfl | rfl | rfl | rfl <;> rfl) ?_; intro w6 hr6 hg6 hz)
  have hbw1 := HB.out.trans (HB1.out.mono HB.out.size)
  have hbw5 := hbw1.trans (HB5.out.mono hbw1.size)
  have HB6 := Lib.hid (below_grown hbw5 hg6 (by have := HG8.out; have := hbw1.size; omega) hbw5.size)
  have HR6 := Lib.hid (HRG.out.grown hg6 HNR.out)
  clear hbw1 hbw5
  refine (cinf_any w6).mono ?_
  rintro e w7 ⟨rfl, hb7⟩
  have hr7 := HR6.out.later hb7
  have HB7 := Lib.hid (HB6.out.trans (hb7.mono HB6.out.size))
  clear hb7
  go_wp2_with ((with_reducible show wpList _ _ _ (⟨none, _, _, _, _, _⟩ :: _) _ _); refine wlS_store rfl 36 3 Try.sizePt _ _ rfl gr [.bool true, .slice none 0 0, .slice none 0 0] rfl rfl 36 _ hr7 rfl rfl (ones3 rfl rfl rfl) ?_; intro w8 hr8 hg8w hz)
  refine ⟨rfl, _, results_pt2 rfl _ gr _ rfl hr8 rfl, rfl, below_grown HB7.out hg8w HGL.out HB7.out.size⟩

set_option maxRecDepth 100000 in
set_option maxHeartbeats 4000000 in
theorem cDec_zero (w : World) (c : Int) (D : Crv) (hc : crvOf c = some D) (bq off n cp : Nat) (b0 : BitVec 8) (bs : List (BitVec 8)) (hs : SlV w w.heap.size (some ⟨bq, off, none⟩) n cp ((b0 :: bs).map W8)) (hn : n ≤ 500) (hb0 : b0 = 0) :
    Calls Try.prog 22 #[.int .i64 c, .slice (some ⟨bq, off, none⟩) n cp] w fun e w' => e = .returned (.tuple #[inf0, .bool (decide (n = 1))]) ∧ Below w.heap.size w w' := by
  have hnn : n = bs.length + 1 := by simpa using hs.len
  have hn1 : (0 : Int) < n := by omega
  have hn2 : ¬ (n : Int) = 0 := by omega
  have hz8 := BitVec.isLt b0
  obtain ⟨v8, hv8⟩ : ∃ v : Int, i8 b0 = v := ⟨_, rfl⟩
  have hc8 : (W8 b0) = .int .u8 v8 := by rw [← hv8]
  have hv0 : v8 = 0 := by rw [← hv8, hb0]; rfl
  subst hv0
  clear hb0
  have HV8 := Lib.hid hv8
  have HC8 := Lib.hid hc8
  have HNN := Lib.hid hnn
  have HSW := Lib.hid hs
  clear hnn hz8 hv8 hc8
  have hmx : Try.prog.follows .mixedOrders = true := by kernel_rfl
  have hok := crv_ok hc
  have HOK := Lib.hid hok
  obtain ⟨W0, e0, r0, b0, s0⟩ := newS w 36 [.bool false, .slice none 0 0, .slice none 0 0] _ rfl
  obtain ⟨gr, hgr⟩ : ∃ x, w.heap.size = x := ⟨_, rfl⟩
  rw [hgr] at r0
  have HB := Lib.hid b0
  have HR := Lib.hid r0
  have HGL := Lib.hid (show w.heap.size ≤ gr by omega)
  have hs0 := hs.later b0 (Nat.le_refl _)
  have HS := Lib.hid hs0
  have HD := Lib.hid (domOf_yes W0 c D hc)
  clear b0 s0 r0 hc hs hs0 hok 
  go_enter Try.func22, Try.ntmps22
  go_wp2_with fail
  refine HD.out.mono ?_
  rintro e w1 ⟨vd, rfl, hvd, hb1⟩
  obtain ⟨vp, vb, vn, vx, vy, rfl, k1, k2, k3, k4, k5⟩ := hvd
  obtain ⟨Ap, np, cp', rfl⟩ := k1.sl
  obtain ⟨Ab, nb, cb, rfl⟩ := k2.sl
  obtain ⟨An, nn, cn, rfl⟩ := k3.sl
  obtain ⟨Ax, nx, cx, rfl⟩ := k4.sl
  obtain ⟨Ay, ny, cy, rfl⟩ := k5.sl
  have HDM := Lib.hid (show Dm w1 _ D from ⟨_, _, _, _, _, rfl, k1, k2, k3, k4, k5⟩)
  obtain ⟨W5, e5, r5, b5, s5⟩ := newS w1 59 [.int .i64 0, .slice none 0 0, .slice none 0 0, .slice none 0 0, .bool false, .slice none 0 0, .slice none 0 0] _ rfl
  obtain ⟨g8, hg8⟩ : ∃ x, w1.heap.size = x := ⟨_, rfl⟩
  rw [hg8] at r5
  have HB5 := Lib.hid b5
  have HB1 := Lib.hid hb1
  have HG8 := Lib.hid (show w1.heap.size ≤ g8 by omega)
  have HNU := Lib.hid (NoU.of_row r5 (by intro v hv x; simp only [List.mem_cons, List.not_mem_nil, or_false] at hv; rcases hv with rfl | rfl | rfl | rfl | rfl | rfl | rfl <;> (intro h; cases h)))
  have HRG := Lib.hid ((HR.out.later hb1).later b5)
  have HNR := Lib.hid (show gr ≠ g8 by have := (HR.out.later hb1).lt; omega)
  have hs5 := (HS.out.later hb1 (Nat.le_refl _)).later b5 (Nat.le_refl _)
  have HS5 := Lib.hid hs5
  clear hb1 b5 s5 hs5 k1 k2 k3 k4 k5
  have hbw1 := HB.out.trans (HB1.out.mono HB.out.size)
  have HBW5 := Lib.hid (hbw1.trans (HB5.out.mono hbw1.size))
  have HG8X := Lib.hid (show w.heap.size ≤ g8 by have := HG8.out; have := hbw1.size; omega)
  clear hbw1
  go_wp2_with ((with_reducible show wpList _ _ _ (⟨none, _, _, _, _, _⟩ :: _) _ _); refine wlS_store rfl 59 7 Try.sizeDom _ _ rfl g8 [.int .i64 (D.size : Int), .slice Ap np cp', .slice Ab nb cb, .slice An nn cn, .bool false, .slice Ax nx cx, .slice Ay ny cy] rfl rfl 59 _ r5 rfl rfl (by intro v hv; simp only [List.mem_cons, List.not_mem_nil, or_false] at hv; rcases hv with rfl | rfl | rfl | rfl | rfl | rfl | rfl <;> rfl) ?_; intro w6 hr6 hg6 hz; have HBX := Lib.hid (below_grown HBW5.out hg6 HG8X.out HBW5.out.size); have hc0 : w6.cell? ⟨bq, off, none⟩ = some (.int .u8 0) := (by have hh := (HSW.out.later HBX.out (Nat.le_refl _)).first; rw [HC8.out] at hh; exact hh); have f0 := hr6.at_ (i := 0) rfl)
  have hbw1 := HB.out.trans (HB1.out.mono HB.out.size)
  have hbw5 := hbw1.trans (HB5.out.mono hbw1.size)
  have HB6 := Lib.hid (below_grown hbw5 hg6 (by have := HG8.out; have := hbw1.size; omega) hbw5.size)
  have HR6 := Lib.hid (HRG.out.grown hg6 HNR.out)
  clear hbw1 hbw5
  refine (cinf_any w6).mono ?_
  rintro e w7 ⟨rfl, hb7⟩
  have hr7 := HR6.out.later hb7
  have HB7 := Lib.hid (HB6.out.trans (hb7.mono HB6.out.size))
  clear hb7
  go_wp2_with ((with_reducible show wpList _ _ _ (⟨none, _, _, _, _, _⟩ :: _) _ _); refine wlS_store rfl 36 3 Try.sizePt _ _ rfl gr [.bool true, .slice none 0 0, .slice none 0 0] rfl rfl 36 _ hr7 rfl rfl (ones3 rfl rfl rfl) ?_; intro w8 hr8 hg8w hz)
  refine ⟨rfl, _, results_pt2 rfl _ gr _ rfl hr8 rfl, ?_, below_grown HB7.out hg8w HGL.out HB7.out.size⟩
  have hq : ((n : Int) == 1) = decide (n = 1) := by
    rw [Bool.eq_iff_iff]
    simp
    omega
  simp [hq]

set_option maxRecDepth 100000 in
set_option maxHeartbeats 4000000 in
theorem cDec_form (w : World) (c : Int) (D : Crv) (hc : crvOf c = some D) (bq off n cp : Nat) (b0 : BitVec 8) (bs : List (BitVec 8)) (hs : SlV w w.heap.size (some ⟨bq, off, none⟩) n cp ((b0 :: bs).map W8)) (hn : n ≤ 500) (h0 : b0 ≠ 0) (h4 : b0 ≠ 4) :
    Calls Try.prog 22 #[.int .i64 c, .slice (some ⟨bq, off, none⟩) n cp] w fun e w' => e = .returned (.tuple #[inf0, .bool false]) ∧ Below w.heap.size w w' := by
  have hnn : n = bs.length + 1 := by simpa using hs.len
  have hn1 : (0 : Int) < n := by omega
  have hn2 : ¬ (n : Int) = 0 := by omega
  have hz8 := BitVec.isLt b0
  obtain ⟨v8, hv8⟩ : ∃ v : Int, i8 b0 = v := ⟨_, rfl⟩
  have hc8 : (W8 b0) = .int .u8 v8 := by rw [← hv8]
  have hv0 : ¬ v8 = 0 := fun h => h0 (by rw [← hv8] at h; exact BitVec.eq_of_toNat_eq (by unfold i8 at h; simpa using h))
  have hv4 : ¬ v8 = 4 := fun h => h4 (by rw [← hv8] at h; exact BitVec.eq_of_toNat_eq (by unfold i8 at h; have h9 : b0.toNat = 4 := (by omega); simpa using h9))
  clear h0 h4
  have HV8 := Lib.hid hv8
  have HC8 := Lib.hid hc8
  have HNN := Lib.hid hnn
  have HSW := Lib.hid hs
  clear hnn hz8 hv8 hc8
  have hmx : Try.prog.follows .mixedOrders = true := by kernel_rfl
  have hok := crv_ok hc
  have HOK := Lib.hid hok
  obtain ⟨W0, e0, r0, b0, s0⟩ := newS w 36 [.bool false, .slice none 0 0, .slice none 0 0] _ rfl
  obtain ⟨gr, hgr⟩ : ∃ x, w.heap.size = x := ⟨_, rfl⟩
  rw [hgr] at r0
  have HB := Lib.hid b0
  have HR := Lib.hid r0
  have HGL := Lib.hid (show w.heap.size ≤ gr by omega)
  have hs0 := hs.later b0 (Nat.le_refl _)
  have HS := Lib.hid hs0
  have HD := Lib.hid (domOf_yes W0 c D hc)
  clear b0 s0 r0 hc hs hs0 hok 
  go_enter Try.func22, Try.ntmps22
  go_wp2_with fail
  refine HD.out.mono ?_
  rintro e w1 ⟨vd, rfl, hvd, hb1⟩
  obtain ⟨vp, vb, vn, vx, vy, rfl, k1, k2, k3, k4, k5⟩ := hvd
  obtain ⟨Ap, np, cp', rfl⟩ := k1.sl
  obtain ⟨Ab, nb, cb, rfl⟩ := k2.sl
  obtain ⟨An, nn, cn, rfl⟩ := k3.sl
  obtain ⟨Ax, nx, cx, rfl⟩ := k4.sl
  obtain ⟨Ay, ny, cy, rfl⟩ := k5.sl
  have HDM := Lib.hid (show Dm w1 _ D from ⟨_, _, _, _, _, rfl, k1, k2, k3, k4, k5⟩)
  obtain ⟨W5, e5, r5, b5, s5⟩ := newS w1 59 [.int .i64 0, .slice none 0 0, .slice none 0 0, .slice none 0 0, .bool false, .slice none 0 0, .slice none 0 0] _ rfl
  obtain ⟨g8, hg8⟩ : ∃ x, w1.heap.size = x := ⟨_, rfl⟩
  rw [hg8] at r5
  have HB5 := Lib.hid b5
  have HB1 := Lib.hid hb1
  have HG8 := Lib.hid (show w1.heap.size ≤ g8 by omega)
  have HNU := Lib.hid (NoU.of_row r5 (by intro v hv x; simp only [List.mem_cons, List.not_mem_nil, or_false] at hv; rcases hv with rfl | rfl | rfl | rfl | rfl | rfl | rfl <;> (intro h; cases h)))
  have HRG := Lib.hid ((HR.out.later hb1).later b5)
  have HNR := Lib.hid (show gr ≠ g8 by have := (HR.out.later hb1).lt; omega)
  have hs5 := (HS.out.later hb1 (Nat.le_refl _)).later b5 (Nat.le_refl _)
  have HS5 := Lib.hid hs5
  clear hb1 b5 s5 hs5 k1 k2 k3 k4 k5
  have hbw1 := HB.out.trans (HB1.out.mono HB.out.size)
  have HBW5 := Lib.hid (hbw1.trans (HB5.out.mono hbw1.size))
  have HG8X := Lib.hid (show w.heap.size ≤ g8 by have := HG8.out; have := hbw1.size; omega)
  clear hbw1
  go_wp2_with ((with_reducible show wpList _ _ _ (⟨none, _, _, _, _, _⟩ :: _) _ _); refine wlS_store rfl 59 7 Try.sizeDom _ _ rfl g8 [.int .i64 (D.size : Int), .slice Ap np cp', .slice Ab nb cb, .slice An nn cn, .bool false, .slice Ax nx cx, .slice Ay ny cy] rfl rfl 59 _ r5 rfl rfl (by intro v hv; simp only [List.mem_cons, List.not_mem_nil, or_false] at hv; rcases hv with rfl | rfl | rfl | rfl | rfl | rfl | rfl <;> rfl) ?_; intro w6 hr6 hg6 hz; have HBX := Lib.hid (below_grown HBW5.out hg6 HG8X.out HBW5.out.size); have hc0 : w6.cell? ⟨bq, off, none⟩ = some (.int .u8 v8) := (by have hh := (HSW.out.later HBX.out (Nat.le_refl _)).first; rw [HC8.out] at hh; exact hh); have f0 := hr6.at_ (i := 0) rfl)
  have hbw1 := HB.out.trans (HB1.out.mono HB.out.size)
  have hbw5 := hbw1.trans (HB5.out.mono hbw1.size)
  have HB6 := Lib.hid (below_grown hbw5 hg6 (by have := HG8.out; have := hbw1.size; omega) hbw5.size)
  have HR6 := Lib.hid (HRG.out.grown hg6 HNR.out)
  clear hbw1 hbw5
  refine (cinf_any w6).mono ?_
  rintro e w7 ⟨rfl, hb7⟩
  have hr7 := HR6.out.later hb7
  have HB7 := Lib.hid (HB6.out.trans (hb7.mono HB6.out.size))
  clear hb7
  go_wp2_with ((with_reducible show wpList _ _ _ (⟨none, _, _, _, _, _⟩ :: _) _ _); refine wlS_store rfl 36 3 Try.sizePt _ _ rfl gr [.bool true, .slice none 0 0, .slice none 0 0] rfl rfl 36 _ hr7 rfl rfl (ones3 rfl rfl rfl) ?_; intro w8 hr8 hg8w hz)
  refine ⟨rfl, _, results_pt2 rfl _ gr _ rfl hr8 rfl, rfl, below_grown HB7.out hg8w HGL.out HB7.out.size⟩

set_option maxRecDepth 100000 in
set_option maxHeartbeats 4000000 in
theorem cDec_len (w : World) (c : Int) (D : Crv) (hc : crvOf c = some D) (bq off n cp : Nat) (b0 : BitVec 8) (bs : List (BitVec 8)) (hs : SlV w w.heap.size (some ⟨bq, off, none⟩) n cp ((b0 :: bs).map W8)) (hn : n ≤ 500) (hb0 : b0 = 4) (hl : n ≠ 1 + 2 * D.size) (hD : D.size ≤ 1000) :
    Calls Try.prog 22 #[.int .i64 c, .slice (some ⟨bq, off, none⟩) n cp] w fun e w' => e = .returned (.tuple #[inf0, .bool false]) ∧ Below w.heap.size w w' := by
  have hnn : n = bs.length + 1 := by simpa using hs.len
  have hn1 : (0 : Int) < n := by omega
  have hn2 : ¬ (n : Int) = 0 := by omega
  have hz8 := BitVec.isLt b0
  obtain ⟨v8, hv8⟩ : ∃ v : Int, i8 b0 = v := ⟨_, rfl⟩
  have hc8 : (W8 b0) = .int .u8 v8 := by rw [← hv8]
  have hv0 : v8 = 4 := by rw [← hv8, hb0]; rfl
  subst hv0
  have hl2 : ¬ (n : Int) = 1 + 2 * (D.size : Int) := by omega
  have hD2 : (D.size : Int) ≤ 1000 := by omega
  clear hb0 hl hD
  have HV8 := Lib.hid hv8
  have HC8 := Lib.hid hc8
  have HNN := Lib.hid hnn
  have HSW := Lib.hid hs
  clear hnn hz8 hv8 hc8
  have hmx : Try.prog.follows .mixedOrders = true := by kernel_rfl
  have hok := crv_ok hc
  have HOK := Lib.hid hok
  obtain ⟨W0, e0, r0, b0, s0⟩ := newS w 36 [.bool false, .slice none 0 0, .slice none 0 0] _ rfl
  obtain ⟨gr, hgr⟩ : ∃ x, w.heap.size = x := ⟨_, rfl⟩
  rw [hgr] at r0
  have HB := Lib.hid b0
  have HR := Lib.hid r0
  have HGL := Lib.hid (show w.heap.size ≤ gr by omega)
  have hs0 := hs.later b0 (Nat.le_refl _)
  have HS := Lib.hid hs0
  have HD := Lib.hid (domOf_yes W0 c D hc)
  clear b0 s0 r0 hc hs hs0 hok 
  go_enter Try.func22, Try.ntmps22
  go_wp2_with fail
  refine HD.out.mono ?_
  rintro e w1 ⟨vd, rfl, hvd, hb1⟩
  obtain ⟨vp, vb, vn, vx, vy, rfl, k1, k2, k3, k4, k5⟩ := hvd
  obtain ⟨Ap, np, cp', rfl⟩ := k1.sl
  obtain ⟨Ab, nb, cb, rfl⟩ := k2.sl
  obtain ⟨An, nn, cn, rfl⟩ := k3.sl
  obtain ⟨Ax, nx, cx, rfl⟩ := k4.sl
  obtain ⟨Ay, ny, cy, rfl⟩ := k5.sl
  have HDM := Lib.hid (show Dm w1 _ D from ⟨_, _, _, _, _, rfl, k1, k2, k3, k4, k5⟩)
  obtain ⟨W5, e5, r5, b5, s5⟩ := newS w1 59 [.int .i64 0, .slice none 0 0, .slice none 0 0, .slice none 0 0, .bool false, .slice none 0 0, .slice none 0 0] _ rfl
  obtain ⟨g8, hg8⟩ : ∃ x, w1.heap.size = x := ⟨_, rfl⟩
  rw [hg8] at r5
  have HB5 := Lib.hid b5
  have HB1 := Lib.hid hb1
  have HG8 := Lib.hid (show w1.heap.size ≤ g8 by omega)
  have HNU := Lib.hid (NoU.of_row r5 (by intro v hv x; simp only [List.mem_cons, List.not_mem_nil, or_false] at hv; rcases hv with rfl | rfl | rfl | rfl | rfl | rfl | rfl <;> (intro h; cases h)))
  have HRG := Lib.hid ((HR.out.later hb1).later b5)
  have HNR := Lib.hid (show gr ≠ g8 by have := (HR.out.later hb1).lt; omega)
  have hs5 := (HS.out.later hb1 (Nat.le_refl _)).later b5 (Nat.le_refl _)
  have HS5 := Lib.hid hs5
  clear hb1 b5 s5 hs5 k1 k2 k3 k4 k5
  have hbw1 := HB.out.trans (HB1.out.mono HB.out.size)
  have HBW5 := Lib.hid (hbw1.trans (HB5.out.mono hbw1.size))
  have HG8X := Lib.hid (show w.heap.size ≤ g8 by have := HG8.out; have := hbw1.size; omega)
  clear hbw1
  go_wp2_with ((with_reducible show wpList _ _ _ (⟨none, _, _, _, _, _⟩ :: _) _ _); refine wlS_store rfl 59 7 Try.sizeDom _ _ rfl g8 [.int .i64 (D.size : Int), .slice Ap np cp', .slice Ab nb cb, .slice An nn cn, .bool false, .slice Ax nx cx, .slice Ay ny cy] rfl rfl 59 _ r5 rfl rfl (by intro v hv; simp only [List.mem_cons, List.not_mem_nil, or_false] at hv; rcases hv with rfl | rfl | rfl | rfl | rfl | rfl | rfl <;> rfl) ?_; intro w6 hr6 hg6 hz; have HBX := Lib.hid (below_grown HBW5.out hg6 HG8X.out HBW5.out.size); have hc0 : w6.cell? ⟨bq, off, none⟩ = some (.int .u8 4) := (by have hh := (HSW.out.later HBX.out (Nat.le_refl _)).first; rw [HC8.out] at hh; exact hh); have f0 := hr6.at_ (i := 0) rfl)
  have hbw1 := HB.out.trans (HB1.out.mono HB.out.size)
  have hbw5 := hbw1.trans (HB5.out.mono hbw1.size)
  have HB6 := Lib.hid (below_grown hbw5 hg6 (by have := HG8.out; have := hbw1.size; omega) hbw5.size)
  have HR6 := Lib.hid (HRG.out.grown hg6 HNR.out)
  clear hbw1 hbw5
  refine (cinf_any w6).mono ?_
  rintro e w7 ⟨rfl, hb7⟩
  have hr7 := HR6.out.later hb7
  have HB7 := Lib.hid (HB6.out.trans (hb7.mono HB6.out.size))
  clear hb7
  go_wp2_with ((with_reducible show wpList _ _ _ (⟨none, _, _, _, _, _⟩ :: _) _ _); refine wlS_store rfl 36 3 Try.sizePt _ _ rfl gr [.bool true, .slice none 0 0, .slice none 0 0] rfl rfl 36 _ hr7 rfl rfl (ones3 rfl rfl rfl) ?_; intro w8 hr8 hg8w hz)
  refine ⟨rfl, _, results_pt2 rfl _ gr _ rfl hr8 rfl, rfl, below_grown HB7.out hg8w HGL.out HB7.out.size⟩

end Go.Proofs.Ytmmmcbklgmjalaa

/- curve: Decode of a long form. -/
set_option linter.unusedVariables false
set_option linter.unusedSimpArgs false
namespace Go.Proofs.Ytmmmcbklgmjalaa
open Go.RowKit


set_option maxRecDepth 100000 in
set_option maxHeartbeats 4000000 in
theorem cDec_good (w : World) (c : Int) (D : Crv) (hc : crvOf c = some D) (bq off n cp : Nat) (b0 : BitVec 8) (bs : List (BitVec 8)) (hs : SlV w w.heap.size (some ⟨bq, off, none⟩) n cp ((b0 :: bs).map W8)) (hn : n ≤ 500) (hb0 : b0 = 4) (hl : n = 1 + 2 * D.size) (hD : 0 < D.size ∧ D.size ≤ 200) (X Y : Nat) (hX : numB (bs.take D.size) = X) (hY : numB (bs.drop D.size) = Y) (has : hasN D.p D.b (some (X, Y))) :
    Calls Try.prog 22 #[.int .i64 c, .slice (some ⟨bq, off, none⟩) n cp] w fun e w' => ∃ v, e = .returned (.tuple #[v, .bool true]) ∧ Pt w' v (some (X, Y)) ∧ Below w.heap.size w w' := by
  have hnn : n = bs.length + 1 := by simpa using hs.len
  have hn1 : (0 : Int) < n := by omega
  have hn2 : ¬ (n : Int) = 0 := by omega
  have hz8 := BitVec.isLt b0
  obtain ⟨v8, hv8⟩ : ∃ v : Int, i8 b0 = v := ⟨_, rfl⟩
  have hc8 : (W8 b0) = .int .u8 v8 := by rw [← hv8]
  have hv0 : v8 = 4 := by rw [← hv8, hb0]; rfl
  subst hv0
  obtain ⟨sz, hsz⟩ : ∃ z, D.size = z := ⟨_, rfl⟩
  rw [hsz] at hl hD hX hY
  have HSZ := Lib.hid hsz
  subst hl
  have hD2 : (sz : Int) ≤ 200 := by omega
  have hD3 : (0 : Int) < (sz : Int) := by omega
  clear hb0 hsz hn1 hn2
  have HV8 := Lib.hid hv8
  have HC8 := Lib.hid hc8
  have HNN := Lib.hid hnn
  have HSW := Lib.hid hs
  clear hnn hz8 hv8 hc8
  have hmx : Try.prog.follows .mixedOrders = true := by kernel_rfl
  have hok := crv_ok hc
  have HOK := Lib.hid hok
  obtain ⟨W0, e0, r0, b0, s0⟩ := newS w 36 [.bool false, .slice none 0 0, .slice none 0 0] _ rfl
  obtain ⟨gr, hgr⟩ : ∃ x, w.heap.size = x := ⟨_, rfl⟩
  rw [hgr] at r0
  have HB := Lib.hid b0
  have HR := Lib.hid r0
  have HGL := Lib.hid (show w.heap.size ≤ gr by omega)
  have hs0 := hs.later b0 (Nat.le_refl _)
  have HS := Lib.hid hs0
  have Hhas := Lib.hid has
  have HhX := Lib.hid hX
  have HhY := Lib.hid hY
  have HhD := Lib.hid hD
  have HD := Lib.hid (domOf_yes W0 c D hc)
  clear b0 s0 r0 hc hs hs0 hok has hX hY hD
  go_enter Try.func22, Try.ntmps22
  go_wp2_with fail
  refine HD.out.mono ?_
  rintro e w1 ⟨vd, rfl, hvd, hb1⟩
  obtain ⟨vp, vb, vn, vx, vy, rfl, k1, k2, k3, k4, k5⟩ := hvd
  obtain ⟨Ap, np, cp', rfl⟩ := k1.sl
  obtain ⟨Ab, nb, cb, rfl⟩ := k2.sl
  obtain ⟨An, nn, cn, rfl⟩ := k3.sl
  obtain ⟨Ax, nx, cx, rfl⟩ := k4.sl
  obtain ⟨Ay, ny, cy, rfl⟩ := k5.sl
  have HDM := Lib.hid (show Dm w1 _ D from ⟨_, _, _, _, _, rfl, k1, k2, k3, k4, k5⟩)
  obtain ⟨W5, e5, r5, b5, s5⟩ := newS w1 59 [.int .i64 0, .slice none 0 0, .slice none 0 0, .slice none 0 0, .bool false, .slice none 0 0, .slice none 0 0] _ rfl
  obtain ⟨g8, hg8⟩ : ∃ x, w1.heap.size = x := ⟨_, rfl⟩
  rw [hg8] at r5
  have HB5 := Lib.hid b5
  have HB1 := Lib.hid hb1
  have HG8 := Lib.hid (show w1.heap.size ≤ g8 by omega)
  have HNU := Lib.hid (NoU.of_row r5 (by intro v hv x; simp only [List.mem_cons, List.not_mem_nil, or_false] at hv; rcases hv with rfl | rfl | rfl | rfl | rfl | rfl | rfl <;> (intro h; cases h)))
  have HRG := Lib.hid ((HR.out.later hb1).later b5)
  have HNR := Lib.hid (show gr ≠ g8 by have := (HR.out.later hb1).lt; omega)
  have hs5 := (HS.out.later hb1 (Nat.le_refl _)).later b5 (Nat.le_refl _)
  have HS5 := Lib.hid hs5
  clear hb1 b5 s5 hs5 k1 k2 k3 k4 k5
  have hbw1 := HB.out.trans (HB1.out.mono HB.out.size)
  have HBW5 := Lib.hid (hbw1.trans (HB5.out.mono hbw1.size))
  have HG8X := Lib.hid (show w.heap.size ≤ g8 by have := HG8.out; have := hbw1.size; omega)
  clear hbw1
  go_wp2_with ((with_reducible show wpList _ _ _ (⟨none, _, _, _, _, _⟩ :: _) _ _); refine wlS_store rfl 59 7 Try.sizeDom _ _ rfl g8 [.int .i64 (D.size : Int), .slice Ap np cp', .slice Ab nb cb, .slice An nn cn, .bool false, .slice Ax nx cx, .slice Ay ny cy] rfl rfl 59 _ r5 rfl rfl (by intro v hv; simp only [List.mem_cons, List.not_mem_nil, or_false] at hv; rcases hv with rfl | rfl | rfl | rfl | rfl | rfl | rfl <;> rfl) ?_; intro w6 hr6 hg6 hz; have HBX := Lib.hid (below_grown HBW5.out hg6 HG8X.out HBW5.out.size); have hc0 : w6.cell? ⟨bq, off, none⟩ = some (.int .u8 4) := (by have hh := (HSW.out.later HBX.out (Nat.le_refl _)).first; rw [HC8.out] at hh; exact hh); have f0 := hr6.at_ (i := 0) rfl; rw [HSZ.out] at f0)
  have hbw1 := HB.out.trans (HB1.out.mono HB.out.size)
  have hbw5 := hbw1.trans (HB5.out.mono hbw1.size)
  have HB6 := Lib.hid (below_grown hbw5 hg6 (by have := HG8.out; have := hbw1.size; omega) hbw5.size)
  have HR6 := Lib.hid (HRG.out.grown hg6 HNR.out)
  clear hbw1 hbw5
  have HDM6 := Lib.hid ((HDM.out.later HB5.out).sb ⟨g8, HNU.out, hg6⟩)
  have HR8 := Lib.hid hr6
  have hgrl := HR6.out.lt
  have HGX := Lib.hid (show gr < w6.heap.size ∧ g8 < w6.heap.size from ⟨hgrl, hr6.lt⟩)
  have hcap := (HSW.out).cap
  have hcm := (HSW.out).max
  have HCP := Lib.hid (And.intro hcap hcm)
  have hcap2 : ((1 + 2 * sz : Nat) : Int) ≤ (cp : Int) := by omega
  have hcm2 : (cp : Int) ≤ 9223372036854775807 := by omega
  clear hgrl hcap hcm
  have HD3 := Lib.hid (show sz ≤ 200 by omega)
  refine (wpIn_wide (n := 9)).1 (wpIn_region_numB rfl hmx [(47, .val (.slice (some ⟨bq, off, none⟩) (1 + 2 * sz) cp)), (48, .val (.pointer (some ⟨g8, 0, none⟩))), (49, .val (.int .i64 (sz : Int))), (50, .val (.int .i64 (1 + (sz : Int)))), (51, .val (.slice (some ⟨bq, off + 1, none⟩) sz (cp - 1))), (52, .num (X)), (53, .val (.slice (some ⟨bq, off, none⟩) (1 + 2 * sz) cp)), (54, .val (.pointer (some ⟨g8, 0, none⟩))), (55, .val (.int .i64 (sz : Int))), (56, .val (.int .i64 (1 + (sz : Int)))), (57, .val (.slice (some ⟨bq, off + (1 + sz), none⟩) sz (cp - (1 + sz)))), (58, .num (Y)), (59, .of (.pt (some (X, Y)))), (8, .row 36 w6.heap.size [.bool false, .slice none 0 0, .slice none 0 0])] (by kernel_rfl) (by kernel_rfl) (by kernel_rfl) (by kernel_rfl) (by rfl) 14 rfl (by kernel_rfl) ?hops8 ?hlast8)
  case hops8 =>
    intro i o a' V hns hB ho hev hrd
    have his : i < 15 := by have := (Array.getElem?_eq_some_iff.1 ho).1; simpa using this
    have hw : IntKind.i64.wrap (1 + (sz : Int)) = 1 + (sz : Int) := by
      rw [IntKind.wrap_i64]
      omega
    have k1 : 0 ≤ 1 + (sz : Int) ∧ 1 + (sz : Int) ≤ (cp : Int) := by omega
    have k2 : (1 : Int) ≤ max (1 + (sz : Int)) 0 := by omega
    have k3 : ¬ cp = 1 := by omega
    have k4 : (1 + (sz : Int)).toNat - 1 = sz := by omega
    have k5 : 0 ≤ 1 + (sz : Int) ∧ (sz : Int) ≤ 2 * (sz : Int) := by omega
    have k6 : (1 + (sz : Int)).toNat = 1 + sz := by omega
    have k7 : ¬ cp = 1 + sz := by omega
    have k8 : 1 + 2 * sz - (1 + sz) = sz := by omega
    have hr8 := HR8.out.later hB
    have f0 := hr8.at_ (i := 0) rfl
    rw [HSZ.out] at f0
    have hsV := HSW.out.later (HBX.out.trans (hB.mono HBX.out.size)) (Nat.le_refl _)
    have hd1 := hsV.drop (k := 1) (by omega)
    have hs1 : SlV V V.heap.size (some ⟨bq, off + 1, none⟩) sz (cp - 1) ((bs.take sz).map W8) := by
      have h := hd1.take (k := sz) (by omega)
      simpa [List.map_take] using h
    have hs2 : SlV V V.heap.size (some ⟨bq, off + (1 + sz), none⟩) sz (cp - (1 + sz)) ((bs.drop sz).map W8) := by
      have h := hsV.drop (k := 1 + sz) (by omega)
      have e : 1 + 2 * sz - (1 + sz) = sz := by omega
      rw [e, Nat.add_comm 1 sz] at h
      rw [Nat.add_comm 1 sz]
      simpa [List.map_drop] using h
    have hcase : i = 0 ∨ i = 1 ∨ i = 2 ∨ i = 3 ∨ i = 4 ∨ i = 5 ∨ i = 6 ∨ i = 7 ∨ i = 8 ∨ i = 9 ∨ i = 10 ∨ i = 11 ∨ i = 12 ∨ i = 13 ∨ i = 14 := by omega
    rcases hcase with rfl | rfl | rfl | rfl | rfl | rfl | rfl | rfl | rfl | rfl | rfl | rfl | rfl | rfl | rfl
    · simp at ho
      subst ho
      have r1 := hev 1 (by rfl)
      simp [Act.eval] at r1
      refine ⟨(by intro c h; cases h), fun _ _ => trivial, (by simp), .inl ⟨.slice (some ⟨bq, off, none⟩) (1 + 2 * sz) cp, V, ?_, Below.refl _ _, fun t ht => by obtain rfl : 47 = t := Option.some.inj ht; rfl⟩⟩
      simp [execOp, Act.eval, go_sem, r1, f0, hw]
    · simp at ho
      subst ho
      have r6 := hev 6 (by rfl)
      simp [Act.eval] at r6
      refine ⟨(by intro c h; cases h), fun _ _ => trivial, (by simp), .inl ⟨.pointer (some ⟨g8, 0, none⟩), V, ?_, Below.refl _ _, fun t ht => by obtain rfl : 48 = t := Option.some.inj ht; rfl⟩⟩
      simp [execOp, Act.eval, go_sem, r6, f0, hw]
    · simp at ho
      subst ho
      have r48 : a'.eval (.tmp 48) = .pointer (some ⟨g8, 0, none⟩) := hrd 48 (by rfl) (by rfl)
      simp [Act.eval] at r48
      refine ⟨(by intro c h; cases h), fun _ _ => trivial, (by simp), .inl ⟨.int .i64 (sz : Int), V, ?_, Below.refl _ _, fun t ht => by obtain rfl : 49 = t := Option.some.inj ht; rfl⟩⟩
      simp [execOp, Act.eval, go_sem, r48, f0, hw]
    · simp at ho
      subst ho
      have r49 : a'.eval (.tmp 49) = .int .i64 (sz : Int) := hrd 49 (by rfl) (by rfl)
      simp [Act.eval] at r49
      refine ⟨(by intro c h; cases h), fun _ _ => trivial, (by simp), .inl ⟨.int .i64 (1 + (sz : Int)), V, ?_, Below.refl _ _, fun t ht => by obtain rfl : 50 = t := Option.some.inj ht; rfl⟩⟩
      simp [execOp, Act.eval, go_sem, r49, f0, hw]
    · simp at ho
      subst ho
      have r47 : a'.eval (.tmp 47) = .slice (some ⟨bq, off, none⟩) (1 + 2 * sz) cp := hrd 47 (by rfl) (by rfl)
      simp [Act.eval] at r47
      have r50 : a'.eval (.tmp 50) = .int .i64 (1 + (sz : Int)) := hrd 50 (by rfl) (by rfl)
      simp [Act.eval] at r50
      refine ⟨(by intro c h; cases h), fun _ _ => trivial, (by simp), .inl ⟨.slice (some ⟨bq, off + 1, none⟩) sz (cp - 1), V, ?_, Below.refl _ _, fun t ht => by obtain rfl : 51 = t := Option.some.inj ht; rfl⟩⟩
      simp [execOp, Act.eval, go_sem, r47, r50]
      rw [if_pos k1, if_pos k2, if_neg k3, k4]
    · simp at ho
      subst ho
      have r51 : a'.eval (.tmp 51) = .slice (some ⟨bq, off + 1, none⟩) sz (cp - 1) := hrd 51 (by rfl) (by rfl)
      simp [Act.eval] at r51
      refine ⟨(by intro c h; cases h), fun _ _ => trivial, (by simp), .inr ⟨37, #[.slice (some ⟨bq, off + 1, none⟩) sz (cp - 1)], ?_, (callsIn_wide.2 (fromb_u V _ _ _ (bs.take sz) hs1 (by have := HD3.out; omega))).mono ?_⟩⟩
      · simp [execOp, Act.eval, r51, resolve, invoke, Deferred.ofValue]
      · rintro e w' ⟨v, rfl, hv, hB2⟩; rw [HhX.out] at hv
        exact ⟨_, rfl, hB2, fun t ht => by obtain rfl : 52 = t := Option.some.inj ht; exact hv⟩
    · simp at ho
      subst ho
      have r1 := hev 1 (by rfl)
      simp [Act.eval] at r1
      refine ⟨(by intro c h; cases h), fun _ _ => trivial, (by simp), .inl ⟨.slice (some ⟨bq, off, none⟩) (1 + 2 * sz) cp, V, ?_, Below.refl _ _, fun t ht => by obtain rfl : 53 = t := Option.some.inj ht; rfl⟩⟩
      simp [execOp, Act.eval, go_sem, r1, f0, hw]
    · simp at ho
      subst ho
      have r6 := hev 6 (by rfl)
      simp [Act.eval] at r6
      refine ⟨(by intro c h; cases h), fun _ _ => trivial, (by simp), .inl ⟨.pointer (some ⟨g8, 0, none⟩), V, ?_, Below.refl _ _, fun t ht => by obtain rfl : 54 = t := Option.some.inj ht; rfl⟩⟩
      simp [execOp, Act.eval, go_sem, r6, f0, hw]
    · simp at ho
      subst ho
      have r54 : a'.eval (.tmp 54) = .pointer (some ⟨g8, 0, none⟩) := hrd 54 (by rfl) (by rfl)
      simp [Act.eval] at r54
      refine ⟨(by intro c h; cases h), fun _ _ => trivial, (by simp), .inl ⟨.int .i64 (sz : Int), V, ?_, Below.refl _ _, fun t ht => by obtain rfl : 55 = t := Option.some.inj ht; rfl⟩⟩
      simp [execOp, Act.eval, go_sem, r54, f0, hw]
    · simp at ho
      subst ho
      have r55 : a'.eval (.tmp 55) = .int .i64 (sz : Int) := hrd 55 (by rfl) (by rfl)
      simp [Act.eval] at r55
      refine ⟨(by intro c h; cases h), fun _ _ => trivial, (by simp), .inl ⟨.int .i64 (1 + (sz : Int)), V, ?_, Below.refl _ _, fun t ht => by obtain rfl : 56 = t := Option.some.inj ht; rfl⟩⟩
      simp [execOp, Act.eval, go_sem, r55, f0, hw]
    · simp at ho
      subst ho
      have r53 : a'.eval (.tmp 53) = .slice (some ⟨bq, off, none⟩) (1 + 2 * sz) cp := hrd 53 (by rfl) (by rfl)
      simp [Act.eval] at r53
      have r56 : a'.eval (.tmp 56) = .int .i64 (1 + (sz : Int)) := hrd 56 (by rfl) (by rfl)
      simp [Act.eval] at r56
      refine ⟨(by intro c h; cases h), fun _ _ => trivial, (by simp), .inl ⟨.slice (some ⟨bq, off + (1 + sz), none⟩) sz (cp - (1 + sz)), V, ?_, Below.refl _ _, fun t ht => by obtain rfl : 57 = t := Option.some.inj ht; rfl⟩⟩
      simp [execOp, Act.eval, go_sem, r53, r56]
      rw [if_pos k5, k6, if_neg k7, k8]
    · simp at ho
      subst ho
      have r57 : a'.eval (.tmp 57) = .slice (some ⟨bq, off + (1 + sz), none⟩) sz (cp - (1 + sz)) := hrd 57 (by rfl) (by rfl)
      simp [Act.eval] at r57
      refine ⟨(by intro c h; cases h), fun _ _ => trivial, (by simp), .inr ⟨37, #[.slice (some ⟨bq, off + (1 + sz), none⟩) sz (cp - (1 + sz))], ?_, (callsIn_wide.2 (fromb_u V _ _ _ (bs.drop sz) hs2 (by have := HD3.out; omega))).mono ?_⟩⟩
      · simp [execOp, Act.eval, r57, resolve, invoke, Deferred.ofValue]
      · rintro e w' ⟨v, rfl, hv, hB2⟩; rw [HhY.out] at hv
        exact ⟨_, rfl, hB2, fun t ht => by obtain rfl : 58 = t := Option.some.inj ht; exact hv⟩
    · simp at ho
      subst ho
      have r52 : Nu V (a'.eval (.tmp 52)) (X) := hrd 52 (by rfl) (by rfl)
      have r58 : Nu V (a'.eval (.tmp 58)) (Y) := hrd 58 (by rfl) (by rfl)
      obtain ⟨A52, n52, c52, h52⟩ := r52.sl
      rw [h52] at r52
      simp [Act.eval] at h52
      obtain ⟨A58, n58, c58, h58⟩ := r58.sl
      rw [h58] at r58
      simp [Act.eval] at h58
      refine ⟨(by intro c h; cases h), fun _ _ => trivial, (by simp), .inl ⟨.agg #[.bool false, .slice A52 n52 c52, .slice A58 n58 c58], V, ?_, Below.refl _ _, fun t ht => by obtain rfl : 59 = t := Option.some.inj ht; exact ⟨_, _, rfl, r52, r58⟩⟩⟩
      simp [execOp, Act.eval, go_sem, h52, h58]
    · simp at ho
      subst ho
      refine ⟨(by intro c h; cases h), fun _ _ => trivial, (by simp), .inl ⟨.pointer (some ⟨V.heap.size, 0, none⟩), _, ?_, (Below.refl _ V).alloc (Nat.le_refl _) (.cells #[.bool false, .slice none 0 0, .slice none 0 0] 36), fun t ht => by obtain rfl : 8 = t := Option.some.inj ht; exact ⟨_, rfl, hB.size, RowV.new V 36 [.bool false, .slice none 0 0, .slice none 0 0]⟩⟩⟩
      simp [execOp, Act.eval, go_sem]
    · simp at ho
      subst ho
      omega
  case hlast8 =>
    intro vals o a' V hB ho hev hrd hvals
    simp at ho
    have hop : o.op = .store 36 (.tmp 8) (.tmp 59) := by subst ho; rfl
    have hd8 : readsB o 8 = true := by subst ho; rfl
    have hd59 : readsB o 59 = true := by subst ho; rfl
    have e8 : a'.eval (.tmp 8) = vals 13 := by
      obtain ⟨j, oj, hj, hjd, e⟩ := hrd 8 hd8 (by rfl)
      have hj13 : j = 13 := distinct_of (by kernel_rfl) j 13 oj _ 8 hj rfl hjd rfl
      rw [e, hj13]
    have e59 : a'.eval (.tmp 59) = vals 12 := by
      obtain ⟨j, oj, hj, hjd, e⟩ := hrd 59 hd59 (by rfl)
      have hj12 : j = 12 := distinct_of (by kernel_rfl) j 12 oj _ 59 hj rfl hjd rfl
      rw [e, hj12]
    have p13 : ∃ g, vals 13 = .pointer (some ⟨g, 0, none⟩) ∧ w6.heap.size ≤ g ∧ RowV 36 V g [.bool false, .slice none 0 0, .slice none 0 0] := hvals 13 8 _ (by decide) rfl rfl
    have p12 : Pt V (vals 12) (some (X, Y)) := hvals 12 59 _ (by decide) rfl rfl
    obtain ⟨g9, he13, hg9, hr9⟩ := p13
    obtain ⟨vX, vY, he12, hvX, hvY⟩ := p12
    obtain ⟨V', hrun, hr', hg'⟩ := exec_store (P := Try.prog) (w := V) (o := o) (a := a') 36 3 Try.sizePt (.tmp 8) (.tmp 59) hop g9 [.bool false, vX, vY] (by rw [e8, he13]) (by rw [e59, he12]) 36 _ hr9 rfl rfl (ones3 rfl hvX.one hvY.one)
    refine ⟨(by intro c h; rw [hop] at h; cases h), (by subst ho; exact fun _ _ => trivial), undef, V', .inl ⟨hrun, rfl⟩, ?_⟩
    have hsb : Sb V V' := ⟨g9, NoU.of_row hr9 (noU3 (by intro x h; cases h) (by intro x h; cases h) (by intro x h; cases h)), hg'⟩
    have hne : g9 ≠ gr ∧ g9 ≠ g8 := by have := HGX.out; omega
    have HPv := Lib.hid (show Pg V' (.agg #[.bool false, vX, vY]) (some (X, Y)) from ⟨_, _, rfl, (hvX.sb hsb).gu, (hvY.sb hsb).gu⟩)
    have HVX := Lib.hid (And.intro (hvX.sb hsb) (hvY.sb hsb))
    have HDMv := Lib.hid ((HDM6.out.later hB).sb hsb)
    have HR8v := Lib.hid ((HR8.out.later hB).grown hg' (fun e => hne.2 e.symm))
    have HRv := Lib.hid ((HR6.out.later hB).grown hg' (fun e => hne.1 e.symm))
    have hbV := HBX.out.trans (hB.mono HBX.out.size)
    have HBV := Lib.hid (below_grown hbV hg' (by have := HBX.out.size; omega) hbV.size)
    have HR9 := Lib.hid hr'
    have HV13 := Lib.hid he13
    have oX := hvX.one
    have oY := hvY.one
    have HO := Lib.hid (And.intro oX oY)
    have HNE := Lib.hid hne
    clear hvX hvY hsb hne hbV hr9 hrun hg' hvals hrd hev ho hop e8 e59 he12 oX oY
    simp [wrote, Act.put]
    rw [he13]
    clear he13
    have p0 := HR9.out.at_ (i := 0) rfl
    have p1 := HR9.out.at_ (i := 1) rfl
    have p2 := HR9.out.at_ (i := 2) rfl
    have f0 := HR8v.out.at_ (i := 0) rfl
    have f1 := HR8v.out.at_ (i := 1) rfl
    have f2 := HR8v.out.at_ (i := 2) rfl
    have f3 := HR8v.out.at_ (i := 3) rfl
    have f4 := HR8v.out.at_ (i := 4) rfl
    have f5 := HR8v.out.at_ (i := 5) rfl
    have f6 := HR8v.out.at_ (i := 6) rfl
    have HHAS := Lib.hid (chas_any V' D (some (X, Y)) _ _ HDMv.out HPv.out HOK.out.1.1 HOK.out.1.2.1 HOK.out.1.2.2)
    go_wp2_with fail
    refine HHAS.out.mono ?_
    rintro e w10 ⟨rfl, hb10⟩
    have hdec : decide (hasN D.p D.b (some (X, Y))) = true := decide_eq_true Hhas.out
    rw [hdec]
    have hr10 := HRv.out.later hb10
    have h9 := HR9.out.later hb10
    have p0 := h9.at_ (i := 0) rfl
    have p1 := h9.at_ (i := 1) rfl
    have p2 := h9.at_ (i := 2) rfl
    have HB10 := Lib.hid (HBV.out.trans (hb10.mono HBV.out.size))
    have HVX10 := Lib.hid (And.intro (HVX.out.1.later hb10) (HVX.out.2.later hb10))
    clear hb10 f0 f1 f2 f3 f4 f5 f6 hdec h9
    go_wp2_with ((with_reducible show wpList _ _ _ (⟨none, _, _, _, _, _⟩ :: _) _ _); refine wlS_store rfl 36 3 Try.sizePt _ _ rfl gr [.bool false, vX, vY] rfl rfl 36 _ hr10 rfl rfl (ones3 rfl HO.out.1 HO.out.2) ?_; intro w12 hr12 hg12 hz)
    refine ⟨rfl, _, results_pt2 rfl _ gr _ rfl hr12 rfl, _, rfl, ⟨_, _, rfl, HVX10.out.1.sb ⟨gr, NoU.of_row hr10 (noU3 (by intro x h; cases h) (by intro x h; cases h) (by intro x h; cases h)), hg12⟩, HVX10.out.2.sb ⟨gr, NoU.of_row hr10 (noU3 (by intro x h; cases h) (by intro x h; cases h) (by intro x h; cases h)), hg12⟩⟩, below_grown HB10.out hg12 HGL.out HB10.out.size⟩

set_option maxRecDepth 100000 in
set_option maxHeartbeats 4000000 in
theorem cDec_off (w : World) (c : Int) (D : Crv) (hc : crvOf c = some D) (bq off n cp : Nat) (b0 : BitVec 8) (bs : List (BitVec 8)) (hs : SlV w w.heap.size (some ⟨bq, off, none⟩) n cp ((b0 :: bs).map W8)) (hn : n ≤ 500) (hb0 : b0 = 4) (hl : n = 1 + 2 * D.size) (hD : 0 < D.size ∧ D.size ≤ 200) (X Y : Nat) (hX : numB (bs.take D.size) = X) (hY : numB (bs.drop D.size) = Y) (has : ¬ hasN D.p D.b (some (X, Y))) :
    Calls Try.prog 22 #[.int .i64 c, .slice (some ⟨bq, off, none⟩) n cp] w fun e w' => e = .returned (.tuple #[inf0, .bool false]) ∧ Below w.heap.size w w' := by
  have hnn : n = bs.length + 1 := by simpa using hs.len
  have hn1 : (0 : Int) < n := by omega
  have hn2 : ¬ (n : Int) = 0 := by omega
  have hz8 := BitVec.isLt b0
  obtain ⟨v8, hv8⟩ : ∃ v : Int, i8 b0 = v := ⟨_, rfl⟩
  have hc8 : (W8 b0) = .int .u8 v8 := by rw [← hv8]
  have hv0 : v8 = 4 := by rw [← hv8, hb0]; rfl
  subst hv0
  obtain ⟨sz, hsz⟩ : ∃ z, D.size = z := ⟨_, rfl⟩
  rw [hsz] at hl hD hX hY
  have HSZ := Lib.hid hsz
  subst hl
  have hD2 : (sz : Int) ≤ 200 := by omega
  have hD3 : (0 : Int) < (sz : Int) := by omega
  clear hb0 hsz hn1 hn2
  have HV8 := Lib.hid hv8
  have HC8 := Lib.hid hc8
  have HNN := Lib.hid hnn
  have HSW := Lib.hid hs
  clear hnn hz8 hv8 hc8
  have hmx : Try.prog.follows .mixedOrders = true := by kernel_rfl
  have hok := crv_ok hc
  have HOK := Lib.hid hok
  obtain ⟨W0, e0, r0, b0, s0⟩ := newS w 36 [.bool false, .slice none 0 0, .slice none 0 0] _ rfl
  obtain ⟨gr, hgr⟩ : ∃ x, w.heap.size = x := ⟨_, rfl⟩
  rw [hgr] at r0
  have HB := Lib.hid b0
  have HR := Lib.hid r0
  have HGL := Lib.hid (show w.heap.size ≤ gr by omega)
  have hs0 := hs.later b0 (Nat.le_refl _)
  have HS := Lib.hid hs0
  have Hhas := Lib.hid has
  have HhX := Lib.hid hX
  have HhY := Lib.hid hY
  have HhD := Lib.hid hD
  have HD := Lib.hid (domOf_yes W0 c D hc)
  clear b0 s0 r0 hc hs hs0 hok has hX hY hD
  go_enter Try.func22, Try.ntmps22
  go_wp2_with fail
  refine HD.out.mono ?_
  rintro e w1 ⟨vd, rfl, hvd, hb1⟩
  obtain ⟨vp, vb, vn, vx, vy, rfl, k1, k2, k3, k4, k5⟩ := hvd
  obtain ⟨Ap, np, cp', rfl⟩ := k1.sl
  obtain ⟨Ab, nb, cb, rfl⟩ := k2.sl
  obtain ⟨An, nn, cn, rfl⟩ := k3.sl
  obtain ⟨Ax, nx, cx, rfl⟩ := k4.sl
  obtain ⟨Ay, ny, cy, rfl⟩ := k5.sl
  have HDM := Lib.hid (show Dm w1 _ D from ⟨_, _, _, _, _, rfl, k1, k2, k3, k4, k5⟩)
  obtain ⟨W5, e5, r5, b5, s5⟩ := newS w1 59 [.int .i64 0, .slice none 0 0, .slice none 0 0, .slice none 0 0, .bool false, .slice none 0 0, .slice none 0 0] _ rfl
  obtain ⟨g8, hg8⟩ : ∃ x, w1.heap.size = x := ⟨_, rfl⟩
  rw [hg8] at r5
  have HB5 := Lib.hid b5
  have HB1 := Lib.hid hb1
  have HG8 := Lib.hid (show w1.heap.size ≤ g8 by omega)
  have HNU := Lib.hid (NoU.of_row r5 (by intro v hv x; simp only [List.mem_cons, List.not_mem_nil, or_false] at hv; rcases hv with rfl | rfl | rfl | rfl | rfl | rfl | rfl <;> (intro h; cases h)))
  have HRG := Lib.hid ((HR.out.later hb1).later b5)
  have HNR := Lib.hid (show gr ≠ g8 by have := (HR.out.later hb1).lt; omega)
  have hs5 := (HS.out.later hb1 (Nat.le_refl _)).later b5 (Nat.le_refl _)
  have HS5 := Lib.hid hs5
  clear hb1 b5 s5 hs5 k1 k2 k3 k4 k5
  have hbw1 := HB.out.trans (HB1.out.mono HB.out.size)
  have HBW5 := Lib.hid (hbw1.trans (HB5.out.mono hbw1.size))
  have HG8X := Lib.hid (show w.heap.size ≤ g8 by have := HG8.out; have := hbw1.size; omega)
  clear hbw1
  go_wp2_with ((with_reducible show wpList _ _ _ (⟨none, _, _, _, _, _⟩ :: _) _ _); refine wlS_store rfl 59 7 Try.sizeDom _ _ rfl g8 [.int .i64 (D.size : Int), .slice Ap np cp', .slice Ab nb cb, .slice An nn cn, .bool false, .slice Ax nx cx, .slice Ay ny cy] rfl rfl 59 _ r5 rfl rfl (by intro v hv; simp only [List.mem_cons, List.not_mem_nil, or_false] at hv; rcases hv with rfl | rfl | rfl | rfl | rfl | rfl | rfl <;> rfl) ?_; intro w6 hr6 hg6 hz; have HBX := Lib.hid (below_grown HBW5.out hg6 HG8X.out HBW5.out.size); have hc0 : w6.cell? ⟨bq, off, none⟩ = some (.int .u8 4) := (by have hh := (HSW.out.later HBX.out (Nat.le_refl _)).first; rw [HC8.out] at hh; exact hh); have f0 := hr6.at_ (i := 0) rfl; rw [HSZ.out] at f0)
  have hbw1 := HB.out.trans (HB1.out.mono HB.out.size)
  have hbw5 := hbw1.trans (HB5.out.mono hbw1.size)
  have HB6 := Lib.hid (below_grown hbw5 hg6 (by have := HG8.out; have := hbw1.size; omega) hbw5.size)
  have HR6 := Lib.hid (HRG.out.grown hg6 HNR.out)
  clear hbw1 hbw5
  have HDM6 := Lib.hid ((HDM.out.later HB5.out).sb ⟨g8, HNU.out, hg6⟩)
  have HR8 := Lib.hid hr6
  have hgrl := HR6.out.lt
  have HGX := Lib.hid (show gr < w6.heap.size ∧ g8 < w6.heap.size from ⟨hgrl, hr6.lt⟩)
  have hcap := (HSW.out).cap
  have hcm := (HSW.out).max
  have HCP := Lib.hid (And.intro hcap hcm)
  have hcap2 : ((1 + 2 * sz : Nat) : Int) ≤ (cp : Int) := by omega
  have hcm2 : (cp : Int) ≤ 9223372036854775807 := by omega
  clear hgrl hcap hcm
  have HD3 := Lib.hid (show sz ≤ 200 by omega)
  refine (wpIn_wide (n := 9)).1 (wpIn_region_numB rfl hmx [(47, .val (.slice (some ⟨bq, off, none⟩) (1 + 2 * sz) cp)), (48, .val (.pointer (some ⟨g8, 0, none⟩))), (49, .val (.int .i64 (sz : Int))), (50, .val (.int .i64 (1 + (sz : Int)))), (51, .val (.slice (some ⟨bq, off + 1, none⟩) sz (cp - 1))), (52, .num (X)), (53, .val (.slice (some ⟨bq, off, none⟩) (1 + 2 * sz) cp)), (54, .val (.pointer (some ⟨g8, 0, none⟩))), (55, .val (.int .i64 (sz : Int))), (56, .val (.int .i64 (1 + (sz : Int)))), (57, .val (.slice (some ⟨bq, off + (1 + sz), none⟩) sz (cp - (1 + sz)))), (58, .num (Y)), (59, .of (.pt (some (X, Y)))), (8, .row 36 w6.heap.size [.bool false, .slice none 0 0, .slice none 0 0])] (by kernel_rfl) (by kernel_rfl) (by kernel_rfl) (by kernel_rfl) (by rfl) 14 rfl (by kernel_rfl) ?hops8 ?hlast8)
  case hops8 =>
    intro i o a' V hns hB ho hev hrd
    have his : i < 15 := by have := (Array.getElem?_eq_some_iff.1 ho).1; simpa using this
    have hw : IntKind.i64.wrap (1 + (sz : Int)) = 1 + (sz : Int) := by
      rw [IntKind.wrap_i64]
      omega
    have k1 : 0 ≤ 1 + (sz : Int) ∧ 1 + (sz : Int) ≤ (cp : Int) := by omega
    have k2 : (1 : Int) ≤ max (1 + (sz : Int)) 0 := by omega
    have k3 : ¬ cp = 1 := by omega
    have k4 : (1 + (sz : Int)).toNat - 1 = sz := by omega
    have k5 : 0 ≤ 1 + (sz : Int) ∧ (sz : Int) ≤ 2 * (sz : Int) := by omega
    have k6 : (1 + (sz : Int)).toNat = 1 + sz := by omega
    have k7 : ¬ cp = 1 + sz := by omega
    have k8 : 1 + 2 * sz - (1 + sz) = sz := by omega
    have hr8 := HR8.out.later hB
    have f0 := hr8.at_ (i := 0) rfl
    rw [HSZ.out] at f0
    have hsV := HSW.out.later (HBX.out.trans (hB.mono HBX.out.size)) (Nat.le_refl _)
    have hd1 := hsV.drop (k := 1) (by omega)
    have hs1 : SlV V V.heap.size (some ⟨bq, off + 1, none⟩) sz (cp - 1) ((bs.take sz).map W8) := by
      have h := hd1.take (k := sz) (by omega)
      simpa [List.map_take] using h
    have hs2 : SlV V V.heap.size (some ⟨bq, off + (1 + sz), none⟩) sz (cp - (1 + sz)) ((bs.drop sz).map W8) := by
      have h := hsV.drop (k := 1 + sz) (by omega)
      have e : 1 + 2 * sz - (1 + sz) = sz := by omega
      rw [e, Nat.add_comm 1 sz] at h
      rw [Nat.add_comm 1 sz]
      simpa [List.map_drop] using h
    have hcase : i = 0 ∨ i = 1 ∨ i = 2 ∨ i = 3 ∨ i = 4 ∨ i = 5 ∨ i = 6 ∨ i = 7 ∨ i = 8 ∨ i = 9 ∨ i = 10 ∨ i = 11 ∨ i = 12 ∨ i = 13 ∨ i = 14 := by omega
    rcases hcase with rfl | rfl | rfl | rfl | rfl | rfl | rfl | rfl | rfl | rfl | rfl | rfl | rfl | rfl | rfl
    · simp at ho
      subst ho
      have r1 := hev 1 (by rfl)
      simp [Act.eval] at r1
      refine ⟨(by intro c h; cases h), fun _ _ => trivial, (by simp), .inl ⟨.slice (some ⟨bq, off, none⟩) (1 + 2 * sz) cp, V, ?_, Below.refl _ _, fun t ht => by obtain rfl : 47 = t := Option.some.inj ht; rfl⟩⟩
      simp [execOp, Act.eval, go_sem, r1, f0, hw]
    · simp at ho
      subst ho
      have r6 := hev 6 (by rfl)
      simp [Act.eval] at r6
      refine ⟨(by intro c h; cases h), fun _ _ => trivial, (by simp), .inl ⟨.pointer (some ⟨g8, 0, none⟩), V, ?_, Below.refl _ _, fun t ht => by obtain rfl : 48 = t := Option.some.inj ht; rfl⟩⟩
      simp [execOp, Act.eval, go_sem, r6, f0, hw]
    · simp at ho
      subst ho
      have r48 : a'.eval (.tmp 48) = .pointer (some ⟨g8, 0, none⟩) := hrd 48 (by rfl) (by rfl)
      simp [Act.eval] at r48
      refine ⟨(by intro c h; cases h), fun _ _ => trivial, (by simp), .inl ⟨.int .i64 (sz : Int), V, ?_, Below.refl _ _, fun t ht => by obtain rfl : 49 = t := Option.some.inj ht; rfl⟩⟩
      simp [execOp, Act.eval, go_sem, r48, f0, hw]
    · simp at ho
      subst ho
      have r49 : a'.eval (.tmp 49) = .int .i64 (sz : Int) := hrd 49 (by rfl) (by rfl)
      simp [Act.eval] at r49
      refine ⟨(by intro c h; cases h), fun _ _ => trivial, (by simp), .inl ⟨.int .i64 (1 + (sz : Int)), V, ?_, Below.refl _ _, fun t ht => by obtain rfl : 50 = t := Option.some.inj ht; rfl⟩⟩
      simp [execOp, Act.eval, go_sem, r49, f0, hw]
    · simp at ho
      subst ho
      have r47 : a'.eval (.tmp 47) = .slice (some ⟨bq, off, none⟩) (1 + 2 * sz) cp := hrd 47 (by rfl) (by rfl)
      simp [Act.eval] at r47
      have r50 : a'.eval (.tmp 50) = .int .i64 (1 + (sz : Int)) := hrd 50 (by rfl) (by rfl)
      simp [Act.eval] at r50
      refine ⟨(by intro c h; cases h), fun _ _ => trivial, (by simp), .inl ⟨.slice (some ⟨bq, off + 1, none⟩) sz (cp - 1), V, ?_, Below.refl _ _, fun t ht => by obtain rfl : 51 = t := Option.some.inj ht; rfl⟩⟩
      simp [execOp, Act.eval, go_sem, r47, r50]
      rw [if_pos k1, if_pos k2, if_neg k3, k4]
    · simp at ho
      subst ho
      have r51 : a'.eval (.tmp 51) = .slice (some ⟨bq, off + 1, none⟩) sz (cp - 1) := hrd 51 (by rfl) (by rfl)
      simp [Act.eval] at r51
      refine ⟨(by intro c h; cases h), fun _ _ => trivial, (by simp), .inr ⟨37, #[.slice (some ⟨bq, off + 1, none⟩) sz (cp - 1)], ?_, (callsIn_wide.2 (fromb_u V _ _ _ (bs.take sz) hs1 (by have := HD3.out; omega))).mono ?_⟩⟩
      · simp [execOp, Act.eval, r51, resolve, invoke, Deferred.ofValue]
      · rintro e w' ⟨v, rfl, hv, hB2⟩; rw [HhX.out] at hv
        exact ⟨_, rfl, hB2, fun t ht => by obtain rfl : 52 = t := Option.some.inj ht; exact hv⟩
    · simp at ho
      subst ho
      have r1 := hev 1 (by rfl)
      simp [Act.eval] at r1
      refine ⟨(by intro c h; cases h), fun _ _ => trivial, (by simp), .inl ⟨.slice (some ⟨bq, off, none⟩) (1 + 2 * sz) cp, V, ?_, Below.refl _ _, fun t ht => by obtain rfl : 53 = t := Option.some.inj ht; rfl⟩⟩
      simp [execOp, Act.eval, go_sem, r1, f0, hw]
    · simp at ho
      subst ho
      have r6 := hev 6 (by rfl)
      simp [Act.eval] at r6
      refine ⟨(by intro c h; cases h), fun _ _ => trivial, (by simp), .inl ⟨.pointer (some ⟨g8, 0, none⟩), V, ?_, Below.refl _ _, fun t ht => by obtain rfl : 54 = t := Option.some.inj ht; rfl⟩⟩
      simp [execOp, Act.eval, go_sem, r6, f0, hw]
    · simp at ho
      subst ho
      have r54 : a'.eval (.tmp 54) = .pointer (some ⟨g8, 0, none⟩) := hrd 54 (by rfl) (by rfl)
      simp [Act.eval] at r54
      refine ⟨(by intro c h; cases h), fun _ _ => trivial, (by simp), .inl ⟨.int .i64 (sz : Int), V, ?_, Below.refl _ _, fun t ht => by obtain rfl : 55 = t := Option.some.inj ht; rfl⟩⟩
      simp [execOp, Act.eval, go_sem, r54, f0, hw]
    · simp at ho
      subst ho
      have r55 : a'.eval (.tmp 55) = .int .i64 (sz : Int) := hrd 55 (by rfl) (by rfl)
      simp [Act.eval] at r55
      refine ⟨(by intro c h; cases h), fun _ _ => trivial, (by simp), .inl ⟨.int .i64 (1 + (sz : Int)), V, ?_, Below.refl _ _, fun t ht => by obtain rfl : 56 = t := Option.some.inj ht; rfl⟩⟩
      simp [execOp, Act.eval, go_sem, r55, f0, hw]
    · simp at ho
      subst ho
      have r53 : a'.eval (.tmp 53) = .slice (some ⟨bq, off, none⟩) (1 + 2 * sz) cp := hrd 53 (by rfl) (by rfl)
      simp [Act.eval] at r53
      have r56 : a'.eval (.tmp 56) = .int .i64 (1 + (sz : Int)) := hrd 56 (by rfl) (by rfl)
      simp [Act.eval] at r56
      refine ⟨(by intro c h; cases h), fun _ _ => trivial, (by simp), .inl ⟨.slice (some ⟨bq, off + (1 + sz), none⟩) sz (cp - (1 + sz)), V, ?_, Below.refl _ _, fun t ht => by obtain rfl : 57 = t := Option.some.inj ht; rfl⟩⟩
      simp [execOp, Act.eval, go_sem, r53, r56]
      rw [if_pos k5, k6, if_neg k7, k8]
    · simp at ho
      subst ho
      have r57 : a'.eval (.tmp 57) = .slice (some ⟨bq, off + (1 + sz), none⟩) sz (cp - (1 + sz)) := hrd 57 (by rfl) (by rfl)
      simp [Act.eval] at r57
      refine ⟨(by intro c h; cases h), fun _ _ => trivial, (by simp), .inr ⟨37, #[.slice (some ⟨bq, off + (1 + sz), none⟩) sz (cp - (1 + sz))], ?_, (callsIn_wide.2 (fromb_u V _ _ _ (bs.drop sz) hs2 (by have := HD3.out; omega))).mono ?_⟩⟩
      · simp [execOp, Act.eval, r57, resolve, invoke, Deferred.ofValue]
      · rintro e w' ⟨v, rfl, hv, hB2⟩; rw [HhY.out] at hv
        exact ⟨_, rfl, hB2, fun t ht => by obtain rfl : 58 = t := Option.some.inj ht; exact hv⟩
    · simp at ho
      subst ho
      have r52 : Nu V (a'.eval (.tmp 52)) (X) := hrd 52 (by rfl) (by rfl)
      have r58 : Nu V (a'.eval (.tmp 58)) (Y) := hrd 58 (by rfl) (by rfl)
      obtain ⟨A52, n52, c52, h52⟩ := r52.sl
      rw [h52] at r52
      simp [Act.eval] at h52
      obtain ⟨A58, n58, c58, h58⟩ := r58.sl
      rw [h58] at r58
      simp [Act.eval] at h58
      refine ⟨(by intro c h; cases h), fun _ _ => trivial, (by simp), .inl ⟨.agg #[.bool false, .slice A52 n52 c52, .slice A58 n58 c58], V, ?_, Below.refl _ _, fun t ht => by obtain rfl : 59 = t := Option.some.inj ht; exact ⟨_, _, rfl, r52, r58⟩⟩⟩
      simp [execOp, Act.eval, go_sem, h52, h58]
    · simp at ho
      subst ho
      refine ⟨(by intro c h; cases h), fun _ _ => trivial, (by simp), .inl ⟨.pointer (some ⟨V.heap.size, 0, none⟩), _, ?_, (Below.refl _ V).alloc (Nat.le_refl _) (.cells #[.bool false, .slice none 0 0, .slice none 0 0] 36), fun t ht => by obtain rfl : 8 = t := Option.some.inj ht; exact ⟨_, rfl, hB.size, RowV.new V 36 [.bool false, .slice none 0 0, .slice none 0 0]⟩⟩⟩
      simp [execOp, Act.eval, go_sem]
    · simp at ho
      subst ho
      omega
  case hlast8 =>
    intro vals o a' V hB ho hev hrd hvals
    simp at ho
    have hop : o.op = .store 36 (.tmp 8) (.tmp 59) := by subst ho; rfl
    have hd8 : readsB o 8 = true := by subst ho; rfl
    have hd59 : readsB o 59 = true := by subst ho; rfl
    have e8 : a'.eval (.tmp 8) = vals 13 := by
      obtain ⟨j, oj, hj, hjd, e⟩ := hrd 8 hd8 (by rfl)
      have hj13 : j = 13 := distinct_of (by kernel_rfl) j 13 oj _ 8 hj rfl hjd rfl
      rw [e, hj13]
    have e59 : a'.eval (.tmp 59) = vals 12 := by
      obtain ⟨j, oj, hj, hjd, e⟩ := hrd 59 hd59 (by rfl)
      have hj12 : j = 12 := distinct_of (by kernel_rfl) j 12 oj _ 59 hj rfl hjd rfl
      rw [e, hj12]
    have p13 : ∃ g, vals 13 = .pointer (some ⟨g, 0, none⟩) ∧ w6.heap.size ≤ g ∧ RowV 36 V g [.bool false, .slice none 0 0, .slice none 0 0] := hvals 13 8 _ (by decide) rfl rfl
    have p12 : Pt V (vals 12) (some (X, Y)) := hvals 12 59 _ (by decide) rfl rfl
    obtain ⟨g9, he13, hg9, hr9⟩ := p13
    obtain ⟨vX, vY, he12, hvX, hvY⟩ := p12
    obtain ⟨V', hrun, hr', hg'⟩ := exec_store (P := Try.prog) (w := V) (o := o) (a := a') 36 3 Try.sizePt (.tmp 8) (.tmp 59) hop g9 [.bool false, vX, vY] (by rw [e8, he13]) (by rw [e59, he12]) 36 _ hr9 rfl rfl (ones3 rfl hvX.one hvY.one)
    refine ⟨(by intro c h; rw [hop] at h; cases h), (by subst ho; exact fun _ _ => trivial), undef, V', .inl ⟨hrun, rfl⟩, ?_⟩
    have hsb : Sb V V' := ⟨g9, NoU.of_row hr9 (noU3 (by intro x h; cases h) (by intro x h; cases h) (by intro x h; cases h)), hg'⟩
    have hne : g9 ≠ gr ∧ g9 ≠ g8 := by have := HGX.out; omega
    have HPv := Lib.hid (show Pg V' (.agg #[.bool false, vX, vY]) (some (X, Y)) from ⟨_, _, rfl, (hvX.sb hsb).gu, (hvY.sb hsb).gu⟩)
    have HVX := Lib.hid (And.intro (hvX.sb hsb) (hvY.sb hsb))
    have HDMv := Lib.hid ((HDM6.out.later hB).sb hsb)
    have HR8v := Lib.hid ((HR8.out.later hB).grown hg' (fun e => hne.2 e.symm))
    have HRv := Lib.hid ((HR6.out.later hB).grown hg' (fun e => hne.1 e.symm))
    have hbV := HBX.out.trans (hB.mono HBX.out.size)
    have HBV := Lib.hid (below_grown hbV hg' (by have := HBX.out.size; omega) hbV.size)
    have HR9 := Lib.hid hr'
    have HV13 := Lib.hid he13
    have oX := hvX.one
    have oY := hvY.one
    have HO := Lib.hid (And.intro oX oY)
    have HNE := Lib.hid hne
    clear hvX hvY hsb hne hbV hr9 hrun hg' hvals hrd hev ho hop e8 e59 he12 oX oY
    simp [wrote, Act.put]
    rw [he13]
    clear he13
    have p0 := HR9.out.at_ (i := 0) rfl
    have p1 := HR9.out.at_ (i := 1) rfl
    have p2 := HR9.out.at_ (i := 2) rfl
    have f0 := HR8v.out.at_ (i := 0) rfl
    have f1 := HR8v.out.at_ (i := 1) rfl
    have f2 := HR8v.out.at_ (i := 2) rfl
    have f3 := HR8v.out.at_ (i := 3) rfl
    have f4 := HR8v.out.at_ (i := 4) rfl
    have f5 := HR8v.out.at_ (i := 5) rfl
    have f6 := HR8v.out.at_ (i := 6) rfl
    have HHAS := Lib.hid (chas_any V' D (some (X, Y)) _ _ HDMv.out HPv.out HOK.out.1.1 HOK.out.1.2.1 HOK.out.1.2.2)
    go_wp2_with fail
    refine HHAS.out.mono ?_
    rintro e w10 ⟨rfl, hb10⟩
    have hdec : decide (hasN D.p D.b (some (X, Y))) = false := decide_eq_false Hhas.out
    rw [hdec]
    have hr10 := HRv.out.later hb10
    have h9 := HR9.out.later hb10
    have p0 := h9.at_ (i := 0) rfl
    have p1 := h9.at_ (i := 1) rfl
    have p2 := h9.at_ (i := 2) rfl
    have HB10 := Lib.hid (HBV.out.trans (hb10.mono HBV.out.size))
    have HVX10 := Lib.hid (And.intro (HVX.out.1.later hb10) (HVX.out.2.later hb10))
    clear hb10 f0 f1 f2 f3 f4 f5 f6 hdec h9
    clear p0 p1 p2
    go_wp2_with fail
    refine (cinf_any w10).mono ?_
    rintro e w11 ⟨rfl, hb11⟩
    have hr11 := hr10.later hb11
    have HB11 := Lib.hid (HB10.out.trans (hb11.mono HB10.out.size))
    clear hb11
    go_wp2_with ((with_reducible show wpList _ _ _ (⟨none, _, _, _, _, _⟩ :: _) _ _); refine wlS_store rfl 36 3 Try.sizePt _ _ rfl gr [.bool true, .slice none 0 0, .slice none 0 0] rfl rfl 36 _ hr11 rfl rfl (ones3 rfl rfl rfl) ?_; intro w12 hr12 hg12 hz)
    refine ⟨rfl, _, results_pt2 rfl _ gr _ rfl hr12 rfl, rfl, below_grown HB11.out hg12 HGL.out HB11.out.size⟩

end Go.Proofs.Ytmmmcbklgmjalaa

/- curve: Multiples hands out an iterator. -/
set_option linter.unusedVariables false
set_option linter.unusedSimpArgs false
namespace Go.Proofs.Ytmmmcbklgmjalaa
open Go.RowKit

set_option maxRecDepth 100000 in
set_option maxHeartbeats 4000000 in
theorem cMult_none (w : World) (c : Int) (hc : crvOf c = none) (vP : Value) (hP : P3 vP) :
    Calls Try.prog 23 #[.int .i64 c, vP] w fun e w' => e = .returned (.func (.func 39) #[] #[]) ∧ Below w.heap.size w w' := by
  have hmx : Try.prog.follows .mixedOrders = true := by kernel_rfl
  obtain ⟨iP, bP, dP, rfl, hi1, hi2, hi3⟩ := hP
  obtain ⟨W0, e0, r0, b0, s0⟩ := newS w 36 [iP, bP, dP] _ rfl
  obtain ⟨gP, hgP⟩ : ∃ x, w.heap.size = x := ⟨_, rfl⟩
  obtain ⟨W1, e1, r1, b1, s1⟩ := newS W0 36 [iP, bP, dP] _ rfl
  obtain ⟨gs, hgs⟩ : ∃ x, W0.heap.size = x := ⟨_, rfl⟩
  rw [hgP] at r0
  rw [hgs] at r1
  have hbw : Below w.heap.size w W1 := (b0).trans (b1.mono (b0).size)
  have qgP := (r0.later b1)
  have qgs := r1
  have HB := Lib.hid hbw
  have HGL := Lib.hid (show w.heap.size ≤ gP ∧ gP < W1.heap.size by omega)
  have HRP := Lib.hid qgP
  have pp0 := r0.at_ (i := 0) rfl
  have p0 := qgP.at_ (i := 0) rfl
  have pp1 := r0.at_ (i := 1) rfl
  have p1 := qgP.at_ (i := 1) rfl
  have pp2 := r0.at_ (i := 2) rfl
  have p2 := qgP.at_ (i := 2) rfl
  have HDW := Lib.hid (domW_no W1 c hc (.slice (some ⟨gs, 0, none⟩) 1 1))
  clear  b0 s0 r0 b1 s1 r1 hbw qgP qgs hc
  go_enter Try.func23, Try.ntmps23
  go_wp2_with fail
  refine HDW.out.mono ?_
  rintro e w1 ⟨rfl, hb1⟩
  obtain ⟨W5, e5, r5, b5, s5⟩ := newS w1 59 [.int .i64 0, .slice none 0 0, .slice none 0 0, .slice none 0 0, .bool false, .slice none 0 0, .slice none 0 0] _ rfl
  obtain ⟨g8, hg8⟩ : ∃ x, w1.heap.size = x := ⟨_, rfl⟩
  rw [hg8] at r5
  have HB5 := Lib.hid b5
  have HB1 := Lib.hid hb1
  have HG8 := Lib.hid (show W1.heap.size ≤ g8 by have := hb1.size; omega)
  clear hb1 b5 s5 p0 p1 p2 pp0 pp1 pp2
  go_wp2_with ((with_reducible show wpList _ _ _ (⟨none, _, _, _, _, _⟩ :: _) _ _); refine wlS_store rfl 59 7 Try.sizeDom _ _ rfl g8 [.int .i64 0, .slice none 0 0, .slice none 0 0, .slice none 0 0, .bool false, .slice none 0 0, .slice none 0 0] rfl rfl 59 _ r5 rfl rfl (by intro v hv; simp only [List.mem_cons, List.not_mem_nil, or_false] at hv; rcases hv with rfl | rfl | rfl | rfl | rfl | rfl | rfl <;> rfl) ?_; intro w6 hr6 hg6 hz)
  have hbw1 := HB.out.trans (HB1.out.mono HB.out.size)
  have hbw5 := hbw1.trans (HB5.out.mono hbw1.size)
  have HBW := Lib.hid (below_grown hbw5 hg6 (by have := HG8.out; have := HGL.out; omega) hbw5.size)
  go_ret
  exact ⟨rfl, HBW.out⟩

set_option maxRecDepth 100000 in
set_option maxHeartbeats 4000000 in
theorem cMult_no (w : World) (c : Int) (D : Crv) (hc : crvOf c = some D) (vP : Value) (P : Option (Nat × Nat)) (hP : Pg w vP P) (hno : ¬ hasN D.p D.b P) :
    Calls Try.prog 23 #[.int .i64 c, vP] w fun e w' => e = .returned (.func (.func 39) #[] #[]) ∧ Below w.heap.size w w' := by
  have hmx : Try.prog.follows .mixedOrders = true := by kernel_rfl
  have hok := crv_ok hc
  obtain ⟨iP, bP, dP, rfl⟩ := hP.ex
  obtain ⟨W0, e0, r0, b0, s0⟩ := newS w 36 [.bool iP, bP, dP] _ rfl
  obtain ⟨gP, hgP⟩ : ∃ x, w.heap.size = x := ⟨_, rfl⟩
  obtain ⟨W1, e1, r1, b1, s1⟩ := newS W0 36 [.bool iP, bP, dP] _ rfl
  obtain ⟨gs, hgs⟩ : ∃ x, W0.heap.size = x := ⟨_, rfl⟩
  rw [hgP] at r0
  rw [hgs] at r1
  have hbw : Below w.heap.size w W1 := (b0).trans (b1.mono (b0).size)
  have qgP := (r0.later b1)
  have qgs := r1
  have HB := Lib.hid hbw
  have HGL := Lib.hid (show w.heap.size ≤ gP ∧ gP < W1.heap.size by omega)
  have hP3 := hP.later hbw
  have HPP := Lib.hid hP3
  have HRP := Lib.hid qgP
  have pp0 := r0.at_ (i := 0) rfl
  have p0 := qgP.at_ (i := 0) rfl
  have pp1 := r0.at_ (i := 1) rfl
  have p1 := qgP.at_ (i := 1) rfl
  have pp2 := r0.at_ (i := 2) rfl
  have p2 := qgP.at_ (i := 2) rfl
  have HDW := Lib.hid (domW_any W1 c D hc hok.1 gs 1 1 [(.bool iP, bP, dP)] [P] rfl (by decide) rfl (PtsV.one qgs) (by
    intro k a b d R h1 h2
    rcases k with _ | k
    · simp at h1 h2
      obtain ⟨rfl, rfl, rfl⟩ := h1
      subst h2
      exact hP3
    · simp at h1))
  have HOK := Lib.hid hok
  have Hhno := Lib.hid hno
  clear hno b0 s0 r0 b1 s1 r1 hbw qgP qgs hok hc hP hP3
  go_enter Try.func23, Try.ntmps23
  go_wp2_with fail
  refine HDW.out.mono ?_
  rintro e w1 (⟨vd, rfl, hvd, hall, hb1⟩ | ⟨rfl, ⟨R, hR, hRn⟩, hb1⟩)
  · exact absurd (hall P (by simp)) Hhno.out
  · clear hR hRn
    obtain ⟨W5, e5, r5, b5, s5⟩ := newS w1 59 [.int .i64 0, .slice none 0 0, .slice none 0 0, .slice none 0 0, .bool false, .slice none 0 0, .slice none 0 0] _ rfl
    obtain ⟨g8, hg8⟩ : ∃ x, w1.heap.size = x := ⟨_, rfl⟩
    rw [hg8] at r5
    have HB5 := Lib.hid b5
    have HB1 := Lib.hid hb1
    have HG8 := Lib.hid (show W1.heap.size ≤ g8 by have := hb1.size; omega)
    clear hb1 b5 s5 p0 p1 p2 pp0 pp1 pp2
    go_wp2_with ((with_reducible show wpList _ _ _ (⟨none, _, _, _, _, _⟩ :: _) _ _); refine wlS_store rfl 59 7 Try.sizeDom _ _ rfl g8 [.int .i64 0, .slice none 0 0, .slice none 0 0, .slice none 0 0, .bool false, .slice none 0 0, .slice none 0 0] rfl rfl 59 _ r5 rfl rfl (by intro v hv; simp only [List.mem_cons, List.not_mem_nil, or_false] at hv; rcases hv with rfl | rfl | rfl | rfl | rfl | rfl | rfl <;> rfl) ?_; intro w6 hr6 hg6 hz)
    have hbw1 := HB.out.trans (HB1.out.mono HB.out.size)
    have hbw5 := hbw1.trans (HB5.out.mono hbw1.size)
    have HBW := Lib.hid (below_grown hbw5 hg6 (by have := HG8.out; have := HGL.out; omega) hbw5.size)
    go_ret
    exact ⟨rfl, HBW.out⟩

set_option maxRecDepth 100000 in
set_option maxHeartbeats 4000000 in
theorem cMult_yes (w : World) (c : Int) (D : Crv) (hc : crvOf c = some D) (vP : Value) (P : Option (Nat × Nat)) (hP : Pg w vP P) (has : hasN D.p D.b P) :
    Calls Try.prog 23 #[.int .i64 c, vP] w fun e w' => ∃ g7 g5 a b d dd, e = .returned (.func (.func 40) #[] #[.pointer (some ⟨g7, 0, none⟩), .pointer (some ⟨g5, 0, none⟩)]) ∧
      RowV 68 w' g7 [a, b, d] ∧ Rt w' (.agg #[a, b, d]) (rtN P) ∧ RowV 59 w' g5 dd ∧ Dm w' (.agg dd.toArray) D ∧ w.heap.size ≤ g7 ∧ w.heap.size ≤ g5 ∧ Below w.heap.size w w' := by
  have hmx : Try.prog.follows .mixedOrders = true := by kernel_rfl
  have hok := crv_ok hc
  obtain ⟨iP, bP, dP, rfl⟩ := hP.ex
  obtain ⟨W0, e0, r0, b0, s0⟩ := newS w 36 [.bool iP, bP, dP] _ rfl
  obtain ⟨gP, hgP⟩ : ∃ x, w.heap.size = x := ⟨_, rfl⟩
  obtain ⟨W1, e1, r1, b1, s1⟩ := newS W0 36 [.bool iP, bP, dP] _ rfl
  obtain ⟨gs, hgs⟩ : ∃ x, W0.heap.size = x := ⟨_, rfl⟩
  rw [hgP] at r0
  rw [hgs] at r1
  have hbw : Below w.heap.size w W1 := (b0).trans (b1.mono (b0).size)
  have qgP := (r0.later b1)
  have qgs := r1
  have HB := Lib.hid hbw
  have HGL := Lib.hid (show w.heap.size ≤ gP ∧ gP < W1.heap.size by omega)
  have hP3 := hP.later hbw
  have HPP := Lib.hid hP3
  have HRP := Lib.hid qgP
  have pp0 := r0.at_ (i := 0) rfl
  have p0 := qgP.at_ (i := 0) rfl
  have pp1 := r0.at_ (i := 1) rfl
  have p1 := qgP.at_ (i := 1) rfl
  have pp2 := r0.at_ (i := 2) rfl
  have p2 := qgP.at_ (i := 2) rfl
  have HDW := Lib.hid (domW_any W1 c D hc hok.1 gs 1 1 [(.bool iP, bP, dP)] [P] rfl (by decide) rfl (PtsV.one qgs) (by
    intro k a b d R h1 h2
    rcases k with _ | k
    · simp at h1 h2
      obtain ⟨rfl, rfl, rfl⟩ := h1
      subst h2
      exact hP3
    · simp at h1))
  have HOK := Lib.hid hok
  have Hhas := Lib.hid has
  clear has b0 s0 r0 b1 s1 r1 hbw qgP qgs hok hc hP hP3
  go_enter Try.func23, Try.ntmps23
  go_wp2_with fail
  refine HDW.out.mono ?_
  rintro e w1 (⟨vd, rfl, hvd, hall, hb1⟩ | ⟨rfl, ⟨R, hR, hRn⟩, hb1⟩)
  rotate_left
  · exfalso
    simp only [List.mem_cons, List.not_mem_nil, or_false] at hR
    subst hR
    exact hRn Hhas.out
  · skip
    obtain ⟨vp, vb, vn, vx, vy, rfl, k1, k2, k3, k4, k5⟩ := hvd
    obtain ⟨Ap, np, cp, rfl⟩ := k1.sl
    obtain ⟨Ab, nb, cb, rfl⟩ := k2.sl
    obtain ⟨An, nn, cn, rfl⟩ := k3.sl
    obtain ⟨Ax, nx, cx, rfl⟩ := k4.sl
    obtain ⟨Ay, ny, cy, rfl⟩ := k5.sl
    have HDM := Lib.hid (show Dm w1 _ D from ⟨_, _, _, _, _, rfl, k1, k2, k3, k4, k5⟩)
    obtain ⟨W5, e5, r5, b5, s5⟩ := newS w1 59 [.int .i64 0, .slice none 0 0, .slice none 0 0, .slice none 0 0, .bool false, .slice none 0 0, .slice none 0 0] _ rfl
    obtain ⟨g8, hg8⟩ : ∃ x, w1.heap.size = x := ⟨_, rfl⟩
    rw [hg8] at r5
    have HB5 := Lib.hid b5
    have HB1 := Lib.hid hb1
    have HG8 := Lib.hid (show W1.heap.size ≤ g8 by have := hb1.size; omega)
    have HNU := Lib.hid (NoU.of_row r5 (by intro v hv x; simp only [List.mem_cons, List.not_mem_nil, or_false] at hv; rcases hv with rfl | rfl | rfl | rfl | rfl | rfl | rfl <;> (intro h; cases h)))
    clear k1 k2 k3 k4 k5 hall hb1 b5 s5 p0 p1 p2 pp0 pp1 pp2
    go_wp2_with ((with_reducible show wpList _ _ _ (⟨none, _, _, _, _, _⟩ :: _) _ _); refine wlS_store rfl 59 7 Try.sizeDom _ _ rfl g8 [.int .i64 (D.size : Int), .slice Ap np cp, .slice Ab nb cb, .slice An nn cn, .bool false, .slice Ax nx cx, .slice Ay ny cy] rfl rfl 59 _ r5 rfl rfl (by intro v hv; simp only [List.mem_cons, List.not_mem_nil, or_false] at hv; rcases hv with rfl | rfl | rfl | rfl | rfl | rfl | rfl <;> rfl) ?_; intro w6 hr6 hg6 hz; have q6 := ((HRP.out.later HB1.out).later HB5.out).grown hg6 (by have := HG8.out; have := HGL.out; omega); have c0 := q6.at_ (i := 0) rfl; have c1 := q6.at_ (i := 1) rfl; have c2 := q6.at_ (i := 2) rfl)
    have hsb : Sb W5 w6 := ⟨g8, HNU.out, hg6⟩
    have HDM6 := Lib.hid ((HDM.out.later HB5.out).sb hsb)
    have HP6 := Lib.hid (((HPP.out.later HB1.out).later HB5.out).sb hsb)
    have HRP6 := Lib.hid (((HRP.out.later HB1.out).later HB5.out).grown hg6 (by have := HG8.out; have := HGL.out; omega))
    have HR8 := Lib.hid hr6
    have hbw1 := HB.out.trans (HB1.out.mono HB.out.size)
    have hbw5 := hbw1.trans (HB5.out.mono hbw1.size)
    have HBW := Lib.hid (below_grown hbw5 hg6 (by have := HG8.out; have := HGL.out; omega) hbw5.size)
    clear hsb hbw1 hbw5 HDM HB5 HB1 HPP HRP hr6 hg6 hz HNU
    refine (crof_any w6 _ P HP6.out).mono ?_
    rintro e w7 ⟨v7, rfl, hv7, hb7⟩
    obtain ⟨a, b, d, rfl, oa, ob, oc⟩ := (show ∃ a b d, v7 = .agg #[a, b, d] ∧ a.oneCell' = true ∧ b.oneCell' = true ∧ d.oneCell' = true by
      obtain ⟨a, b, d, rfl, q1, q2, q3⟩ := hv7
      exact ⟨a, b, d, rfl, q1.one, q2.one, q3.one⟩)
    obtain ⟨W9, e9, r9, b9, s9⟩ := newS w7 68 [.slice none 0 0, .slice none 0 0, .slice none 0 0] _ rfl
    obtain ⟨g9, hg9⟩ : ∃ x, w7.heap.size = x := ⟨_, rfl⟩
    rw [hg9] at r9
    have HV7 := Lib.hid (hv7.later b9)
    have HRD := Lib.hid ((HR8.out.later hb7).later b9)
    have HDD := Lib.hid ((HDM6.out.later hb7).later b9)
    have hb79 := HBW.out.trans (hb7.mono HBW.out.size)
    have HB9 := Lib.hid (hb79.trans (b9.mono hb79.size))
    have HNZ := Lib.hid (NoU.of_row r9 (noU3 (by intro x h; cases h) (by intro x h; cases h) (by intro x h; cases h)))
    have HG9 := Lib.hid (show w.heap.size ≤ g9 ∧ g8 ≠ g9 ∧ w.heap.size ≤ g8 by have := (HR8.out.later hb7).lt; have := hb79.size; have := HG8.out; have := HGL.out; omega)
    clear hv7 hb7 b9 s9 hb79 c0 c1 c2 q6
    go_wp2_with ((with_reducible show wpList _ _ _ (⟨none, _, _, _, _, _⟩ :: _) _ _); refine wlS_store rfl 68 3 Try.sizeRt _ _ rfl g9 [a, b, d] rfl rfl 68 _ r9 rfl rfl (ones3 oa ob oc) ?_; intro w10 hr10 hg10 hz)
    go_ret
    have hsb : Sb W9 w10 := ⟨g9, HNZ.out, hg10⟩
    exact ⟨g9, g8, a, b, d, _, rfl, hr10, HV7.out.sb hsb, HRD.out.grown hg10 HG9.out.2.1, HDD.out.sb hsb, HG9.out.1, HG9.out.2.2, below_grown HB9.out hg10 HG9.out.1 HB9.out.size⟩

end Go.Proofs.Ytmmmcbklgmjalaa

/- Single operations by a known run, and arrays in the middle of a block, inside a fence. -/
set_option linter.unusedVariables false
set_option linter.unusedSimpArgs false
namespace Go.Proofs.Ytmmmcbklgmjalaa
open Go.RowKit

section
variable {F : Fence} {n : Nat} {P : Program} {ops : Array Oper} {Q : Exit → Act → World → Prop} {a : Act} {w w' : World} {rest : List Oper} {o : Oper}
theorem wpListIn_value {v : Value} (hg : o.guard = none) (hdf : ∀ c, o.op ≠ .defer c) (hab : ∀ f, o.about P w a.eval = some f → F.fn f) (hrun : (execOp a.eval o).run P w = .ok (.value v) w') (h : wpListIn F n P ops Q rest (a.put o.dst v) w') : wpListIn F n P ops Q (o :: rest) a w :=
  wpListIn_plain hg fun K hK => by
    unfold Oper.wpIn
    refine ⟨hab, ?_⟩
    rw [Oper.semAt_plain F _ _ hdf, hrun]
    exact hK _ _ h
theorem wpListIn_skips (hg : o.guard = none) (hdf : ∀ c, o.op ≠ .defer c) (hab : ∀ f, o.about P w a.eval = some f → F.fn f) (hrun : (execOp a.eval o).run P w = .ok .skip w') (h : wpListIn F n P ops Q rest (a.put o.dst undef) w') : wpListIn F n P ops Q (o :: rest) a w :=
  wpListIn_plain hg fun K hK => by
    unfold Oper.wpIn
    refine ⟨hab, ?_⟩
    rw [Oper.semAt_plain F _ _ hdf, hrun]
    exact hK _ _ h
theorem wpListIn_load_mid (hgd : o.guard = none) (ty : TypeId) (x : Operand) (ho : o.op = .load ty x)
    (b off : Nat) (hx : a.eval x = .pointer (some ⟨b, off, none⟩)) (cs : List Value) (d : TypeDesc) (hc : w.rangeAt b off cs)
    (hu : P.underlying ty = some d) (hd : d.isRow = true) (hi : (P.info? ty).map (·.size) = some cs.length)
    (h : wpListIn F n P ops Q rest (a.put o.dst (.agg cs.toArray)) w) : wpListIn F n P ops Q (o :: rest) a w :=
  wpListIn_value hgd (by rw [ho]; intro c hc; cases hc) (fun f hf => by simp [Oper.about, ho] at hf)
    (by unfold execOp; simp only [ho, hx, Instr.loadAt, Instr.sureAddr, Sem.run_bind, Sem.run_pure, Result.andThen_ok, run_loadVar_mid w b off ty cs d hc hu hd hi]) h
theorem wpListIn_store_mid (hgd : o.guard = none) (ty : TypeId) (x y : Operand) (ho : o.op = .store ty x y)
    (b off : Nat) (cells : Array Value) (hx : a.eval x = .pointer (some ⟨b, off, none⟩)) (hy : a.eval y = .agg cells)
    (ht : w.there b off cells.size) (hi : (P.info? ty).map (·.size) = some cells.size) (h1 : cells.all (·.oneCell') = true)
    (h : wpListIn F n P ops Q rest (a.put o.dst undef) (w.setCells b off cells.toList)) : wpListIn F n P ops Q (o :: rest) a w :=
  wpListIn_skips hgd (by rw [ho]; intro c hc; cases hc) (fun f hf => by simp [Oper.about, ho] at hf)
    (by unfold execOp; simp only [ho, hx, hy, Instr.storeAt, Instr.sureAddr, Sem.run_bind, Sem.run_pure, Result.andThen_ok, run_storeVar_mid w b off ty cells ht hi h1]) h
end
end Go.Proofs.Ytmmmcbklgmjalaa
