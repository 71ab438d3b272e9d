/- Parts of one proof, joined: Si, Sf, Sj. -/
import Derived.Test.YtnpaidieijlkkaaDoorPileJ6
import Derived.StillTail
import Derived.Test.YtnpaidieijlkkaaDoorPileJ4

/- baileyref3: sha512. -/
set_option linter.unusedVariables false
set_option linter.unusedSimpArgs false
namespace Go.Proofs.YtnpaidieijlkkaaDoor
open Go.RowKit Go.Shelf

theorem Tryd.elem64 : Elem Tryd.prog 55 59 (.int .u64 0) 8 := ⟨Tryd.underlying55, by kernel_rfl, rfl, rfl, by decide⟩
theorem ch64_length (hs : List (BitVec 64)) (ms : List (BitVec 8)) (h : hs.length = 8) : ∀ i, (ch64 hs ms i).length = 8
  | 0 => h
  | i + 1 => by rw [ch64, add64L, List.length_map, List.length_zip, ch64_length hs ms h i]; rfl
structure SchT (w : World) (Z g t : Nat) (ws : List (BitVec 64)) : Prop where
  row : RowV 59 w g ((ws ++ List.replicate (Z - t) 0).map W64)
  len : ws.length = t
theorem SchT.at_ {w : World} {Z g t : Nat} {ws : List (BitVec 64)} (h : SchT w Z g t ws) {i : Nat} (hi : i < t) : w.cell? ⟨g, i, none⟩ = some (W64 (ws.getD i 0)) :=
  h.row.at_ (by rw [List.getElem?_map, get_pre _ _ 0 _ (by rw [h.len]; exact hi)]; rfl)
theorem SchT.end_ {w : World} {Z g t : Nat} {ws : List (BitVec 64)} (h : SchT w Z g t ws) (ht : t < Z) : w.cell? ⟨g, t, none⟩ = some (.int .u64 0) :=
  h.row.at_ (by rw [List.getElem?_map, show Z - t = (Z - t - 1) + 1 by omega, get_end _ _ _ _ h.len]; rfl)
theorem SchT.put {w : World} {Z g t : Nat} {ws : List (BitVec 64)} (h : SchT w Z g t ws) (ht : t < Z) (y : BitVec 64) : SchT (w.setCell ⟨g, t, none⟩ (W64 y)) Z g (t + 1) (ws ++ [y]) :=
  ⟨by
    have h2 := h.row.set t (W64 y)
    rw [← List.map_set, show Z - t = (Z - (t + 1)) + 1 by omega, set_end _ _ _ _ _ h.len] at h2
    exact h2, by simp [h.len]⟩
theorem bv_arc64 (a b c : BitVec 64) : a + b + c = a + c + b := by rw [BitVec.add_assoc, BitVec.add_comm b c, ← BitVec.add_assoc]
theorem sh64_32 (x : BitVec 64) : IntKind.u64.wrap (i64 x * 4294967296) = i64 (x <<< 32) := b64_shl x 32
theorem c32_64_ (x : BitVec 32) : i32 x = i64 (x.setWidth 64) := c32_64'' x
theorem two_row (w : World) (a b : BitVec 32) : SlV (w.alloc (.cells #[W32 a, W32 b] 102)).drew (w.heap.size + 1) (some ⟨w.heap.size, 0, none⟩) 2 2 ([a, b].map W32) := by
  have h := (RowV.new w 102 ([a, b].map W32)).sl (by simp)
  have e : (w.alloc (.cells ([a, b].map W32).toArray 102 (0, 0))).heap.size = w.heap.size + 1 := by simp
  rw [e] at h
  exact h
theorem wordsL64_append : ∀ (a b : List (BitVec 64)), wordsL64 (a ++ b) = wordsL64 a ++ wordsL64 b
  | [], _ => rfl
  | x :: a, b => by rw [List.cons_append, wordsL64, wordsL64, wordsL64_append a b, List.append_assoc]
theorem take_one_more {α : Type} {l : List α} {k : Nat} {x : α} (h : l[k]? = some x) : l.take (k + 1) = l.take k ++ [x] := by rw [List.take_add_one, h]; rfl
theorem padN_128 (n : Nat) : ∃ N, n + padN n 128 = 128 * N ∧ 1 ≤ N ∧ padN n 128 ≤ 144 := by
  unfold padN
  exact ⟨(n + 144 - (n + 16) % 128) / 128, by omega, by omega, by omega⟩
theorem sched64_length (bs : List (BitVec 8)) : ∀ t, (sched64 bs t).length = t
  | 0 => rfl
  | t + 1 => by rw [sched64, List.length_append, sched64_length bs t]; rfl
set_option maxRecDepth 100000 in
set_option maxHeartbeats 20000000 in
theorem rsha512_any (w : World) (B : Nat) (A : Option Addr) (n c : Nat) (bs : List (BitVec 8)) (hs : SlV w B A n c (bs.map W8)) (hz : A = none → c = 0) (hB : B ≤ w.heap.size) (hn : n ≤ 1000000000) (gh : Nat) (xs : List (BitVec 64)) (hxl : xs.length = 8) (hh : RowV 59 w gh (xs.map W64)) :
    Calls Tryd.prog 84 #[.slice A n c, .slice (some ⟨gh, 0, none⟩) 8 8] w fun e w' => ∃ v, e = .returned v ∧ w'.ownsRow w.heap.size 5 1 v 64 ((wordsL64 (ch64 xs (bs ++ padL n 128) ((n + padN n 128) / 128))).map W8) ∧ OnlyV w w' gh := by
  have hghl := hh.lt
  obtain ⟨N, hN, hN1, hpl⟩ := padN_128 n
  have hp := fun w1 (b1 : Below w.heap.size w w1) => rpad_any w1 B A n c bs (hs.below (b1.mono hB)) hz (Nat.le_trans hB b1.size) hn 128 (.inr rfl)
  rw [hN]
  rw [show 128 * N / 128 = N by omega]
  rw [show ((128 : Nat) : Int) = 128 from rfl, show ((128 / 8 : Nat) : Int) = 16 from rfl] at hp
  simp only [hN] at hp
  obtain ⟨ms, hms⟩ : ∃ ms, bs ++ padL n 128 = ms := ⟨_, rfl⟩
  rw [hms] at hp ⊢
  have hNb : N ≤ 7812502 := by omega
  have hmx : Tryd.prog.follows .mixedOrders = true := by kernel_rfl
  have hk := k512_any w
  obtain ⟨g0, hg0⟩ : ∃ g, w.heap.size = g := ⟨_, rfl⟩
  rw [hg0] at hghl hk hp ⊢
  have HG0 := Lib.hid hg0
  have HK := Lib.hid hk
  have HP := Lib.hid hp
  have HH := Lib.hid hh
  clear hN hpl hms hs hk hp hg0 hh hB
  go_enter Tryd.func84, Tryd.ntmps84
  go_wp2_with fail
  refine HK.out.mono ?_
  rintro e w1 ⟨rfl, rk, b1⟩
  have HRK := Lib.hid rk
  have HB1 := Lib.hid b1
  clear rk b1
  go_wp2_with fail
  refine (HP.out w1 HB1.out).mono ?_
  rintro e w2 ⟨v, rfl, ho, b2⟩
  obtain ⟨A2, c2, rfl, sm, hbm, hA2⟩ := SlV.of_own ho
  obtain ⟨gm, off, s0, rfl⟩ : ∃ gm off s, A2 = some ⟨gm, off, s⟩ := by
    cases A2 with
    | none => have := hA2 rfl; omega
    | some a => exact ⟨a.block, a.off, a.spot, rfl⟩
  obtain rfl : s0 = none := by
    obtain ⟨b', o', e, _⟩ := sm.2.2.2 (by intro e; have := sm.len; rw [e] at this; simp at this; omega)
    injection e with e
    injection e
  have hgm : w1.heap.size ≤ gm := hbm _ _ _ rfl
  have h01 := HB1.out.size
  rw [HG0.out] at h01
  have hg01 : g0 < w1.heap.size := HRK.out.lt
  have hrk2 := HRK.out.later b2
  have hrh2 := (HH.out.later (HG0.out ▸ HB1.out)).later b2
  have ho2 : OnlyV w w2 gh := (OnlyV.of_below (a := w) (w := w1) (by rw [HG0.out]; exact HB1.out) gh).trans (OnlyV.of_below b2 gh)
  have hgm2 : gm < w2.heap.size := by
    obtain ⟨b', o', e, hb', _⟩ := sm.2.2.2 (by intro e; have := sm.len; rw [e] at this; simp at this; omega)
    injection e with e
    injection e with e1
    omega
  have hmcap := sm.cap
  have hmmax := sm.max
  have hml : ms.length = 128 * N := by have := sm.len; simpa using this.symm
  have HSM := Lib.hid sm
  have HRK2 := Lib.hid hrk2
  have HRH2 := Lib.hid hrh2
  have HO2 := Lib.hid ho2
  have HCAP := Lib.hid hmcap
  have HMAX := Lib.hid hmmax
  have HML := Lib.hid hml
  have HC64 := Lib.hid (ch64_length xs ms hxl)
  clear ho b2 hA2 hbm hrk2 hrh2 ho2 sm hmcap hmmax hml
  go_wp2
  go_loopw [6] (fun m wr => ∃ i off c' : Nat, i ≤ N ∧ m = .slice (some ⟨gm, off, none⟩) (128 * (N - i)) c' ∧ Hid (SlV wr w2.heap.size (some ⟨gm, off, none⟩) (128 * (N - i)) c' ((ms.drop (128 * i)).map W8)) ∧ Hid (RowV 59 wr gh ((ch64 xs ms i).map W64)) ∧ Hid (RowV 59 wr g0 (rootsL.map W64)) ∧ Hid (OnlyV w2 wr gh)) (fun m _ => match m with | .slice _ n _ => n | _ => 0)
  case atStart => exact ⟨0, off, c2, Nat.zero_le _, rfl, Lib.hid HSM.out, Lib.hid HRH2.out, Lib.hid HRK2.out, Lib.hid (OnlyV.refl _ _)⟩
  case round =>
    obtain ⟨wo, rfl⟩ : ∃ V, V = wr := ⟨_, rfl⟩
    obtain ⟨i, off, c', hi, rfl, HS, HR, HKR, HOV⟩ := hrel
    by_cases hiN : i < N
    · obtain ⟨Z, hZ⟩ : ∃ Z, 128 * (N - i) = Z := ⟨_, rfl⟩
      have hZ1 : 128 ≤ Z := by omega
      obtain ⟨bi, hbi⟩ : ∃ bi, ms.drop (128 * i) = bi := ⟨_, rfl⟩
      rw [hZ, hbi] at HS
      rw [hZ]
      have hbl : bi.length = Z := by rw [← hbi, List.length_drop, HML.out]; omega
      have hcp : Z ≤ c' := HS.out.cap
      have hcm : c' ≤ 9223372036854775807 := HS.out.max
      have kZ : (0 : Int) < Z := by omega
      have kZ2 : (128 : Int) ≤ Z := by omega
      have kZ3 : (Z : Int) ≤ 1000000256 := by omega
      have kc1 : (Z : Int) ≤ c' := by omega
      have kc2 : (c' : Int) ≤ 9223372036854775807 := by omega
      obtain ⟨gw, hgw⟩ : ∃ g, wo.heap.size = g := ⟨_, rfl⟩
      have HGS : w2.heap.size ≤ gw := by have := HOV.out.size; omega
      have HGW := Lib.hid hgw
      have HZ := Lib.hid hZ
      have HBI := Lib.hid hbi
      have HBL := Lib.hid hbl
      clear hZ hbi hbl hcp hcm hgw
      go_wp2_with (at_make; refine wlv_make Tryd.elem64 rfl _ rfl _ 80 rfl rfl (by decide) ?_; intro w3 r3 b3 z3; rw [HGW.out] at r3 b3 z3; have HR3 := Lib.hid r3; have HB3 := Lib.hid b3; have HZ3 := Lib.hid z3; clear r3 b3 z3; rw [HGW.out])
      go_loopw [8] (fun tv W => ∃ t : Nat, t ≤ 80 ∧ tv = .int .i64 (t : Int) ∧ Hid (SchT W 80 gw t (sched64 bi t)) ∧ Hid (Below gw w3 W)) (fun tv _ => 80 - (intOf tv).toNat)
      case atStart => exact ⟨0, Nat.zero_le _, rfl, Lib.hid ⟨HR3.out, rfl⟩, Lib.hid (Below.refl _ _)⟩
      case round =>
        obtain ⟨t, ht, rfl, HSC, HBW⟩ := hrel
        by_cases ht64 : t < 80
        · have kt : (t : Int) < 80 := by omega
          have kt0 : (0 : Int) ≤ t := by omega
          have kt1 : (t : Int) ≤ 79 := by omega
          have ce := HSC.out.end_ ht64
          have hfz := HSC.out.row.frozen t
          by_cases ht16 : t < 16
          · have kt16 : (t : Int) < 16 := by omega
            obtain ⟨q, hq⟩ : ∃ q, 8 * t = q := ⟨_, rfl⟩
            obtain ⟨r, hr⟩ : ∃ r, q + 4 = r := ⟨_, rfl⟩
            have hqI : (8 : Int) * t = q := by omega
            have hrI : (q : Int) + 4 = r := by omega
            have kq0 : (0 : Int) ≤ q := by omega
            have kr0 : (0 : Int) ≤ r := by omega
            have kq2 : (q : Int) ≤ c' := by omega
            have kr2 : (r : Int) ≤ c' := by omega
            have kq3 : (q : Int) ≤ Z := by omega
            have kr3 : (r : Int) ≤ Z := by omega
            have kq4 : ¬ (c' : Int) = q := by omega
            have kr4 : ¬ (c' : Int) = r := by omega
            have kq5 : ¬ c' = q := by omega
            have kr5 : ¬ c' = r := by omega
            have wq : IntKind.i64.wrap (q : Int) = (q : Int) := by rw [IntKind.wrap_i64]; omega
            have wrr : IntKind.i64.wrap (r : Int) = (r : Int) := by rw [IntKind.wrap_i64]; omega
            have hs1 := (HS.out.below ((HB3.out.trans HBW.out).mono HGS)).drop (k := q) (by omega)
            have hs2 := (HS.out.below ((HB3.out.trans HBW.out).mono HGS)).drop (k := r) (by omega)
            rw [← List.map_drop] at hs1 hs2
            have hw1 := fun q0 => word_any (wr.drewN q0) w2.heap.size gm (off + q) (Z - q) (c' - q) (bi.drop q) (hs1.below (below_drewN (Below.refl _ _) q0)) (by omega)
            have hw2 := fun q0 => word_any (wr.drewN q0) w2.heap.size gm (off + r) (Z - r) (c' - r) (bi.drop r) (hs2.below (below_drewN (Below.refl _ _) q0)) (by omega)
            obtain ⟨a, ha⟩ : ∃ x, fold32 ((bi.drop q).take 4) = x := ⟨_, rfl⟩
            obtain ⟨b, hb⟩ : ∃ x, fold32 ((bi.drop r).take 4) = x := ⟨_, rfl⟩
            have hy : rd64 bi t = a.setWidth 64 <<< 32 ||| b.setWidth 64 := by
              rw [rd64, hq, fold64_two _ (by rw [List.length_drop, HBL.out]; omega), List.drop_drop, hr, ha, hb]
            rw [ha] at hw1
            rw [hb] at hw2
            have HW1 := Lib.hid hw1
            have HW2 := Lib.hid hw2
            have HY := Lib.hid hy
            clear hs1 hs2 hw1 hw2 hy ha hb hq hr
            go_wp2_with fail
            refine (wpIn_wide (n := 9)).1 (wpIn_region_pure rfl hmx [(36, .slice (some ⟨gw, 0, none⟩) 80 80), (37, .int .i64 (t : Int)), (38, .slice (some ⟨gm, off, none⟩) Z c'), (39, .int .i64 (t : Int)), (40, .int .i64 (q : Int)), (41, .slice (some ⟨gm, off + q, none⟩) (Z - q) (c' - q)), (42, W32 a), (43, W64 (a.setWidth 64)), (44, W64 (a.setWidth 64 <<< 32)), (45, .slice (some ⟨gm, off, none⟩) Z c'), (46, .int .i64 (t : Int)), (47, .int .i64 (q : Int)), (48, .int .i64 (r : Int)), (49, .slice (some ⟨gm, off + r, none⟩) (Z - r) (c' - r)), (50, W32 b), (51, W64 (b.setWidth 64)), (52, W64 (a.setWidth 64 <<< 32 ||| b.setWidth 64)), (53, .pointer (some ⟨gw, t, none⟩))] (by kernel_rfl) (by kernel_rfl) (by kernel_rfl) (by kernel_rfl) (by first | rfl | simp) 18 (wr.setCell ⟨gw, t, none⟩ (W64 (a.setWidth 64 <<< 32 ||| b.setWidth 64))) rfl (by kernel_rfl) ?ops10 ?last10 ?end10)
            case ops10 =>
              intro i o hi ho
              have hi2 : i = 0 ∨ i = 1 ∨ i = 2 ∨ i = 3 ∨ i = 4 ∨ i = 5 ∨ i = 6 ∨ i = 7 ∨ i = 8 ∨ i = 9 ∨ i = 10 ∨ i = 11 ∨ i = 12 ∨ i = 13 ∨ i = 14 ∨ i = 15 ∨ i = 16 ∨ i = 17 := by omega
              rcases hi2 with rfl | rfl | rfl | rfl | rfl | rfl | rfl | rfl | rfl | rfl | rfl | rfl | rfl | rfl | rfl | rfl | rfl | rfl
              all_goals
                have ho' := ho
                simp only [List.getElem?_toArray, List.getElem?_cons_zero, List.getElem?_cons_succ, Option.some.injEq] at ho'
                subst ho'
                refine ⟨(by intro c h; cases h), fun q0 => ⟨fun _ _ => trivial, ?_⟩⟩
              · exact .inl (by simp [execOp, evP, valP, Act.eval, List.lookup_cons])
              · exact .inl (by simp [execOp, evP, valP, Act.eval, List.lookup_cons])
              · exact .inl (by simp [execOp, evP, valP, Act.eval, List.lookup_cons])
              · exact .inl (by simp [execOp, evP, valP, Act.eval, List.lookup_cons])
              · exact .inl (by simp [execOp, evP, valP, Act.eval, List.lookup_cons, go_sem, hqI, hrI, wq, wrr, kq0, kr0, kq2, kr2, kq3, kr3, kq4, kr4, kq5, kr5, kc1, kc2, kZ3, c32_64, sh64_32, b64_or, kt, kt0])
              · exact .inl (by simp [execOp, evP, valP, Act.eval, List.lookup_cons, go_sem, hqI, hrI, wq, wrr, kq0, kr0, kq2, kr2, kq3, kr3, kq4, kr4, kq5, kr5, kc1, kc2, kZ3, c32_64, sh64_32, b64_or, kt, kt0])
              · refine .inr ⟨110, #[.slice (some ⟨gm, off + q, none⟩) (Z - q) (c' - q)], ?_, (callsIn_wide.2 (HW1.out q0)).mono ?_⟩
                · simp [execOp, evP, valP, Act.eval, List.lookup_cons, go_sem]
                · rintro e w' ⟨rfl, q1, rfl⟩
                  exact ⟨rfl, q1, rfl⟩
              · exact .inl (by simp [execOp, evP, valP, Act.eval, List.lookup_cons, go_sem, hqI, hrI, wq, wrr, kq0, kr0, kq2, kr2, kq3, kr3, kq4, kr4, kq5, kr5, kc1, kc2, kZ3, c32_64, sh64_32, b64_or, kt, kt0] <;> first | exact c32_64 _ | exact c32_64_ _ | exact sh64_32 _ | exact b64_or _ _)
              · exact .inl (by simp [execOp, evP, valP, Act.eval, List.lookup_cons, go_sem, hqI, hrI, wq, wrr, kq0, kr0, kq2, kr2, kq3, kr3, kq4, kr4, kq5, kr5, kc1, kc2, kZ3, c32_64, sh64_32, b64_or, kt, kt0] <;> first | exact c32_64 _ | exact c32_64_ _ | exact sh64_32 _ | exact b64_or _ _)
              · exact .inl (by simp [execOp, evP, valP, Act.eval, List.lookup_cons])
              · exact .inl (by simp [execOp, evP, valP, Act.eval, List.lookup_cons])
              · exact .inl (by simp [execOp, evP, valP, Act.eval, List.lookup_cons, go_sem, hqI, hrI, wq, wrr, kq0, kr0, kq2, kr2, kq3, kr3, kq4, kr4, kq5, kr5, kc1, kc2, kZ3, c32_64, sh64_32, b64_or, kt, kt0])
              · exact .inl (by simp [execOp, evP, valP, Act.eval, List.lookup_cons, go_sem, hqI, hrI, wq, wrr, kq0, kr0, kq2, kr2, kq3, kr3, kq4, kr4, kq5, kr5, kc1, kc2, kZ3, c32_64, sh64_32, b64_or, kt, kt0])
              · exact .inl (by simp [execOp, evP, valP, Act.eval, List.lookup_cons, go_sem, hqI, hrI, wq, wrr, kq0, kr0, kq2, kr2, kq3, kr3, kq4, kr4, kq5, kr5, kc1, kc2, kZ3, c32_64, sh64_32, b64_or, kt, kt0])
              · refine .inr ⟨110, #[.slice (some ⟨gm, off + r, none⟩) (Z - r) (c' - r)], ?_, (callsIn_wide.2 (HW2.out q0)).mono ?_⟩
                · simp [execOp, evP, valP, Act.eval, List.lookup_cons, go_sem]
                · rintro e w' ⟨rfl, q1, rfl⟩
                  exact ⟨rfl, q1, rfl⟩
              · exact .inl (by simp [execOp, evP, valP, Act.eval, List.lookup_cons, go_sem, hqI, hrI, wq, wrr, kq0, kr0, kq2, kr2, kq3, kr3, kq4, kr4, kq5, kr5, kc1, kc2, kZ3, c32_64, sh64_32, b64_or, kt, kt0] <;> first | exact c32_64 _ | exact c32_64_ _ | exact sh64_32 _ | exact b64_or _ _)
              · exact .inl (by simp [execOp, evP, valP, Act.eval, List.lookup_cons, go_sem, hqI, hrI, wq, wrr, kq0, kr0, kq2, kr2, kq3, kr3, kq4, kr4, kq5, kr5, kc1, kc2, kZ3, c32_64, sh64_32, b64_or, kt, kt0] <;> first | exact c32_64 _ | exact c32_64_ _ | exact sh64_32 _ | exact b64_or _ _)
              · exact .inl (by simp [execOp, evP, valP, Act.eval, List.lookup_cons, go_sem, hqI, hrI, wq, wrr, kq0, kr0, kq2, kr2, kq3, kr3, kq4, kr4, kq5, kr5, kc1, kc2, kZ3, c32_64, sh64_32, b64_or, kt, kt0])
            case last10 =>
              intro o ho
              have ho' := ho
              simp only [List.getElem?_toArray, List.getElem?_cons_zero, List.getElem?_cons_succ, Option.some.injEq] at ho'
              subst ho'
              refine ⟨(by intro c h; cases h), fun q => ⟨fun _ _ => trivial, .inl ⟨?_, rfl⟩⟩⟩
              simp [execOp, evP, valP, Act.eval, List.lookup_cons, go_sem, ce, hfz, kt]
              try rfl
            case end10 =>
              intro q0
              simp [wrote, valP, Act.put, List.lookup_cons]
              have hval : sched64 bi (t + 1) = sched64 bi t ++ [a.setWidth 64 <<< 32 ||| b.setWidth 64] := by rw [sched64, if_pos ht16, HY.out]
              have hnx := HSC.out.put ht64 (a.setWidth 64 <<< 32 ||| b.setWidth 64)
              rw [← hval] at hnx
              have HNX := Lib.hid hnx
              have HBX := Lib.hid (below_setV HBW.out (Nat.le_refl gw) t (W64 (a.setWidth 64 <<< 32 ||| b.setWidth 64)))
              clear hnx hval
              go_wp2
              go_round
              case rel => exact ⟨t + 1, by omega, by go_num, Lib.hid ⟨HNX.out.row, HNX.out.len⟩, Lib.hid (below_drewN HBX.out _)⟩
              case measure => simp [intOf]; omega
          · have hti : (t : Int) < 80 := kt
            have kt16 : ¬ (t : Int) < 16 := by omega
            obtain ⟨p15, h15⟩ : ∃ p, t - 15 = p := ⟨_, rfl⟩
            obtain ⟨p2, h2⟩ : ∃ p, t - 2 = p := ⟨_, rfl⟩
            obtain ⟨p16, h16⟩ : ∃ p, t - 16 = p := ⟨_, rfl⟩
            obtain ⟨p7, h7⟩ : ∃ p, t - 7 = p := ⟨_, rfl⟩
            have c15 := HSC.out.at_ (i := p15) (by omega)
            have c2 := HSC.out.at_ (i := p2) (by omega)
            have c16 := HSC.out.at_ (i := p16) (by omega)
            have c7 := HSC.out.at_ (i := p7) (by omega)
            obtain ⟨x, hx⟩ : ∃ x, (sched64 bi t).getD p15 0 = x := ⟨_, rfl⟩
            rw [hx] at c15
            obtain ⟨y, hy⟩ : ∃ x, (sched64 bi t).getD p2 0 = x := ⟨_, rfl⟩
            rw [hy] at c2
            obtain ⟨u, hu⟩ : ∃ x, (sched64 bi t).getD p16 0 = x := ⟨_, rfl⟩
            rw [hu] at c16
            obtain ⟨v, hv⟩ : ∃ x, (sched64 bi t).getD p7 0 = x := ⟨_, rfl⟩
            rw [hv] at c7
            have i15 : (t : Int) - 15 = (p15 : Int) := by omega
            have l15 : (p15 : Int) < 80 := by omega
            have H15 := Lib.hid h15
            have HX := Lib.hid hx
            have i2 : (t : Int) - 2 = (p2 : Int) := by omega
            have l2 : (p2 : Int) < 80 := by omega
            have H2 := Lib.hid h2
            have HY := Lib.hid hy
            have i16 : (t : Int) - 16 = (p16 : Int) := by omega
            have l16 : (p16 : Int) < 80 := by omega
            have H16 := Lib.hid h16
            have HU := Lib.hid hu
            have i7 : (t : Int) - 7 = (p7 : Int) := by omega
            have l7 : (p7 : Int) < 80 := by omega
            have H7 := Lib.hid h7
            have HV := Lib.hid hv
            clear h15 hx h2 hy h16 hu h7 hv
            go_wp2_with fail
            have w16 : IntKind.i64.wrap (p16 : Int) = (p16 : Int) := by rw [IntKind.wrap_i64]; omega
            have w7 : IntKind.i64.wrap (p7 : Int) = (p7 : Int) := by rw [IntKind.wrap_i64]; omega
            refine (wpIn_wide (n := 9)).1 (wpIn_region_pure rfl hmx [(64, .slice (some ⟨gw, 0, none⟩) 80 80), (65, .int .i64 (t : Int)), (66, .slice (some ⟨gw, 0, none⟩) 80 80), (67, .int .i64 (t : Int)), (68, .int .i64 (p16 : Int)), (69, .pointer (some ⟨gw, p16, none⟩)), (70, W64 u), (71, W64 x), (72, W64 (rl64 63 x)), (73, W64 x), (74, W64 (rl64 56 x)), (75, W64 ((rl64 63 x) ^^^ (rl64 56 x))), (76, W64 x), (77, W64 (x >>> 7)), (78, W64 (((rl64 63 x) ^^^ (rl64 56 x)) ^^^ (x >>> 7))), (79, W64 (u + (((rl64 63 x) ^^^ (rl64 56 x)) ^^^ (x >>> 7)))), (80, .slice (some ⟨gw, 0, none⟩) 80 80), (81, .int .i64 (t : Int)), (82, .int .i64 (p7 : Int)), (83, .pointer (some ⟨gw, p7, none⟩)), (84, W64 v), (85, W64 ((u + (((rl64 63 x) ^^^ (rl64 56 x)) ^^^ (x >>> 7))) + v)), (86, W64 y), (87, W64 (rl64 45 y)), (88, W64 y), (89, W64 (rl64 3 y)), (90, W64 ((rl64 45 y) ^^^ (rl64 3 y))), (91, W64 y), (92, W64 (y >>> 6)), (93, W64 (((rl64 45 y) ^^^ (rl64 3 y)) ^^^ (y >>> 6))), (94, W64 (((u + (((rl64 63 x) ^^^ (rl64 56 x)) ^^^ (x >>> 7))) + v) + (((rl64 45 y) ^^^ (rl64 3 y)) ^^^ (y >>> 6)))), (95, .pointer (some ⟨gw, t, none⟩))] (by kernel_rfl) (by kernel_rfl) (by kernel_rfl) (by kernel_rfl) (by first | rfl | simp) 32 (wr.setCell ⟨gw, t, none⟩ (W64 (((u + (((rl64 63 x) ^^^ (rl64 56 x)) ^^^ (x >>> 7))) + v) + (((rl64 45 y) ^^^ (rl64 3 y)) ^^^ (y >>> 6))))) rfl (by kernel_rfl) ?ops13 ?last13 ?end13)
            case ops13 =>
              intro i o hi ho
              have hi2 : i = 0 ∨ i = 1 ∨ i = 2 ∨ i = 3 ∨ i = 4 ∨ i = 5 ∨ i = 6 ∨ i = 7 ∨ i = 8 ∨ i = 9 ∨ i = 10 ∨ i = 11 ∨ i = 12 ∨ i = 13 ∨ i = 14 ∨ i = 15 ∨ i = 16 ∨ i = 17 ∨ i = 18 ∨ i = 19 ∨ i = 20 ∨ i = 21 ∨ i = 22 ∨ i = 23 ∨ i = 24 ∨ i = 25 ∨ i = 26 ∨ i = 27 ∨ i = 28 ∨ i = 29 ∨ i = 30 ∨ i = 31 := by omega
              rcases hi2 with rfl | rfl | rfl | rfl | rfl | rfl | rfl | rfl | rfl | rfl | rfl | rfl | rfl | rfl | rfl | rfl | rfl | rfl | rfl | rfl | rfl | rfl | rfl | rfl | rfl | rfl | rfl | rfl | rfl | rfl | rfl | rfl
              all_goals
                have ho' := ho
                simp only [List.getElem?_toArray, List.getElem?_cons_zero, List.getElem?_cons_succ, Option.some.injEq] at ho'
                subst ho'
                refine ⟨(by intro c h; cases h), fun q => ⟨fun _ _ => trivial, ?_⟩⟩
              · exact .inl (by simp [execOp, evP, valP, Act.eval, List.lookup_cons])
              · exact .inl (by simp [execOp, evP, valP, Act.eval, List.lookup_cons])
              · exact .inl (by simp [execOp, evP, valP, Act.eval, List.lookup_cons])
              · exact .inl (by simp [execOp, evP, valP, Act.eval, List.lookup_cons])
              · exact .inl (by simp [execOp, evP, valP, Act.eval, List.lookup_cons, go_sem, i16, i7, l16, l7, w16, w7, hti, c16, c7, b64_xor, b64_add, b64_d7, b64_d6])
              · exact .inl (by simp [execOp, evP, valP, Act.eval, List.lookup_cons, go_sem, i16, i7, l16, l7, w16, w7, hti, c16, c7, b64_xor, b64_add, b64_d7, b64_d6])
              · exact .inl (by simp [execOp, evP, valP, Act.eval, List.lookup_cons, go_sem, i16, i7, l16, l7, w16, w7, hti, c16, c7, b64_xor, b64_add, b64_d7, b64_d6])
              · exact .inl (by simp [execOp, evP, valP, Act.eval, List.lookup_cons])
              · refine .inr ⟨116, #[W64 x, .int .u64 1], ?_, (callsIn_wide.2 (rightL_any _ (x) 1 (by decide) (by decide))).mono ?_⟩
                · simp [execOp, evP, valP, Act.eval, List.lookup_cons, go_sem]
                · rintro e w' ⟨rfl, rfl⟩
                  exact ⟨rfl, 0, rfl⟩
              · exact .inl (by simp [execOp, evP, valP, Act.eval, List.lookup_cons])
              · refine .inr ⟨116, #[W64 x, .int .u64 8], ?_, (callsIn_wide.2 (rightL_any _ (x) 8 (by decide) (by decide))).mono ?_⟩
                · simp [execOp, evP, valP, Act.eval, List.lookup_cons, go_sem]
                · rintro e w' ⟨rfl, rfl⟩
                  exact ⟨rfl, 0, rfl⟩
              · exact .inl (by simp [execOp, evP, valP, Act.eval, List.lookup_cons, go_sem, i16, i7, l16, l7, w16, w7, hti, c16, c7, b64_xor, b64_add, b64_d7, b64_d6])
              · exact .inl (by simp [execOp, evP, valP, Act.eval, List.lookup_cons])
              · exact .inl (by simp [execOp, evP, valP, Act.eval, List.lookup_cons, go_sem, i16, i7, l16, l7, w16, w7, hti, c16, c7, b64_xor, b64_add, b64_d7, b64_d6] <;> first | exact b32_shr _ _ | exact b32_d3 _ | exact b32_d10 _ | exact b64_d7 _ | exact b64_d6 _ | exact b64_d32 _)
              · exact .inl (by simp [execOp, evP, valP, Act.eval, List.lookup_cons, go_sem, i16, i7, l16, l7, w16, w7, hti, c16, c7, b64_xor, b64_add, b64_d7, b64_d6])
              · exact .inl (by simp [execOp, evP, valP, Act.eval, List.lookup_cons, go_sem, i16, i7, l16, l7, w16, w7, hti, c16, c7, b64_xor, b64_add, b64_d7, b64_d6])
              · exact .inl (by simp [execOp, evP, valP, Act.eval, List.lookup_cons])
              · exact .inl (by simp [execOp, evP, valP, Act.eval, List.lookup_cons])
              · exact .inl (by simp [execOp, evP, valP, Act.eval, List.lookup_cons, go_sem, i16, i7, l16, l7, w16, w7, hti, c16, c7, b64_xor, b64_add, b64_d7, b64_d6])
              · exact .inl (by simp [execOp, evP, valP, Act.eval, List.lookup_cons, go_sem, i16, i7, l16, l7, w16, w7, hti, c16, c7, b64_xor, b64_add, b64_d7, b64_d6])
              · exact .inl (by simp [execOp, evP, valP, Act.eval, List.lookup_cons, go_sem, i16, i7, l16, l7, w16, w7, hti, c16, c7, b64_xor, b64_add, b64_d7, b64_d6])
              · exact .inl (by simp [execOp, evP, valP, Act.eval, List.lookup_cons, go_sem, i16, i7, l16, l7, w16, w7, hti, c16, c7, b64_xor, b64_add, b64_d7, b64_d6])
              · exact .inl (by simp [execOp, evP, valP, Act.eval, List.lookup_cons])
              · refine .inr ⟨116, #[W64 y, .int .u64 19], ?_, (callsIn_wide.2 (rightL_any _ (y) 19 (by decide) (by decide))).mono ?_⟩
                · simp [execOp, evP, valP, Act.eval, List.lookup_cons, go_sem]
                · rintro e w' ⟨rfl, rfl⟩
                  exact ⟨rfl, 0, rfl⟩
              · exact .inl (by simp [execOp, evP, valP, Act.eval, List.lookup_cons])
              · refine .inr ⟨116, #[W64 y, .int .u64 61], ?_, (callsIn_wide.2 (rightL_any _ (y) 61 (by decide) (by decide))).mono ?_⟩
                · simp [execOp, evP, valP, Act.eval, List.lookup_cons, go_sem]
                · rintro e w' ⟨rfl, rfl⟩
                  exact ⟨rfl, 0, rfl⟩
              · exact .inl (by simp [execOp, evP, valP, Act.eval, List.lookup_cons, go_sem, i16, i7, l16, l7, w16, w7, hti, c16, c7, b64_xor, b64_add, b64_d7, b64_d6])
              · exact .inl (by simp [execOp, evP, valP, Act.eval, List.lookup_cons])
              · exact .inl (by simp [execOp, evP, valP, Act.eval, List.lookup_cons, go_sem, i16, i7, l16, l7, w16, w7, hti, c16, c7, b64_xor, b64_add, b64_d7, b64_d6] <;> first | exact b32_shr _ _ | exact b32_d3 _ | exact b32_d10 _ | exact b64_d7 _ | exact b64_d6 _ | exact b64_d32 _)
              · exact .inl (by simp [execOp, evP, valP, Act.eval, List.lookup_cons, go_sem, i16, i7, l16, l7, w16, w7, hti, c16, c7, b64_xor, b64_add, b64_d7, b64_d6])
              · exact .inl (by simp [execOp, evP, valP, Act.eval, List.lookup_cons, go_sem, i16, i7, l16, l7, w16, w7, hti, c16, c7, b64_xor, b64_add, b64_d7, b64_d6])
              · exact .inl (by simp [execOp, evP, valP, Act.eval, List.lookup_cons, go_sem, i16, i7, l16, l7, w16, w7, hti, c16, c7, b64_xor, b64_add, b64_d7, b64_d6])
            case last13 =>
              intro o ho
              have ho' := ho
              simp only [List.getElem?_toArray, List.getElem?_cons_zero, List.getElem?_cons_succ, Option.some.injEq] at ho'
              subst ho'
              refine ⟨(by intro c h; cases h), fun q => ⟨fun _ _ => trivial, .inl ⟨?_, rfl⟩⟩⟩
              simp [execOp, evP, valP, Act.eval, List.lookup_cons, go_sem, ce, hfz, hti]
              try rfl
            case end13 =>
              intro q
              simp [wrote, valP, Act.put, List.lookup_cons]
              have hnx := HSC.out.put ht64 ((((u + (((rl64 63 x) ^^^ (rl64 56 x)) ^^^ (x >>> 7))) + v) + (((rl64 45 y) ^^^ (rl64 3 y)) ^^^ (y >>> 6))))
              have hval : sched64 bi (t + 1) = sched64 bi t ++ [(((u + (((rl64 63 x) ^^^ (rl64 56 x)) ^^^ (x >>> 7))) + v) + (((rl64 45 y) ^^^ (rl64 3 y)) ^^^ (y >>> 6)))] := by
                rw [sched64, if_neg ht16, next64, H15.out, H2.out, H16.out, H7.out, HX.out, HY.out, HU.out, HV.out, bv_arc64 u v]
              rw [← hval] at hnx
              have HNX := Lib.hid hnx
              have HBX := Lib.hid (below_setV HBW.out (Nat.le_refl gw) t (W64 (((u + (((rl64 63 x) ^^^ (rl64 56 x)) ^^^ (x >>> 7))) + v) + (((rl64 45 y) ^^^ (rl64 3 y)) ^^^ (y >>> 6)))))
              clear hnx hval
              go_wp2
              go_round
              case rel => exact ⟨t + 1, by omega, by go_num, Lib.hid ⟨HNX.out.row, HNX.out.len⟩, Lib.hid (below_drewN HBX.out _)⟩
              case measure => simp [intOf]; omega
        · obtain rfl : t = 80 := by omega
          obtain ⟨wp, rfl⟩ : ∃ V, V = wr := ⟨_, rfl⟩
          have hw64 : RowV 59 wp gw ((sched64 bi 80).map W64) := by have := HSC.out.row; simpa using this
          obtain ⟨ws, hws⟩ : ∃ ws, sched64 bi 80 = ws := ⟨_, rfl⟩
          have hwl : ws.length = 80 := by rw [← hws]; exact sched64_length _ _
          rw [hws] at hw64
          have hBall : Below gw wo wp := HB3.out.trans HBW.out
          have hrh := HR.out.below hBall (by omega)
          have hrk := HKR.out.below hBall (by omega)
          obtain ⟨s0, s1, s2, s3, s4, s5, s6, s7, hhc⟩ := list8 (HC64.out i)
          rw [hhc] at hrh
          have hgws : gw < wp.heap.size := hw64.lt
          obtain ⟨gv, hgv⟩ : ∃ g, wp.heap.size = g := ⟨_, rfl⟩
          rw [hgv] at hgws
          have HSH := Lib.hid (hrh.sl (by simp))
          have HW64 := Lib.hid hw64
          have HWL := Lib.hid hwl
          have HWS := Lib.hid hws
          have HBALL := Lib.hid hBall
          have HRH := Lib.hid hrh
          have HRK := Lib.hid hrk
          have HHC := Lib.hid hhc
          have HGV := Lib.hid hgv
          have hones : Ones ([s0, s1, s2, s3, s4, s5, s6, s7].map W64) := ones64 _
          clear hw64 hws hwl hBall hrh hrk hhc hgv
          go_wp2_with (at_builtin; refine wlv_append Tryd.elem64 rfl _ _ rfl wp.heap.size _ 0 [] rfl (World.ownsRow_nil _ _ _ _) (some ⟨gh, 0, none⟩) 8 8 _ rfl (by intro h; cases h) _ HSH.out hones (by decide) (Nat.le_refl _) ?_; intro v5 w5 hown5 hgr5; rw [Nat.zero_add, List.nil_append] at hown5; obtain ⟨b5, c5, rfl, hbb5, hsl5⟩ := own_form0 hown5 (by decide); have HO5 := Lib.hid hsl5; have HBB5 := Lib.hid hbb5; have HB5 := Lib.hid ((Below.refl _ _).grown hgr5 (Nat.le_refl _) (fun k h => by cases h)); clear hown5 hgr5 hsl5 hbb5)
          have hgb5 : gv ≤ b5 := by have := HBB5.out; rw [HGV.out] at this; exact this
          have hB5 : Below gv wp w5 := by have := HB5.out; rw [HGV.out] at this; exact this
          obtain ⟨S, hS⟩ : ∃ S : Nat → H64, st64 ws ⟨s0, s1, s2, s3, s4, s5, s6, s7⟩ = S := ⟨_, rfl⟩
          have HS0 := Lib.hid (show S 0 = ⟨s0, s1, s2, s3, s4, s5, s6, s7⟩ by rw [← hS]; rfl)
          have HS1 := Lib.hid (show ∀ t, S (t + 1) = round64 ((rootsL.getD t 0)) (ws.getD t 0) (S t) from fun t => by rw [← hS]; rfl)
          have HSS := Lib.hid hS
          have HB5 := Lib.hid hB5
          have HRK5 := Lib.hid (HRK.out.below hB5 (by omega))
          have HRW5 := Lib.hid (HW64.out.below hB5 (by omega))
          clear hS hB5
          go_loopw [11, 12] (fun vv tv W => ∃ t b c : Nat, t ≤ 80 ∧ vv = .slice (some ⟨b, 0, none⟩) 8 c ∧ tv = .int .i64 (t : Int) ∧ gv ≤ b ∧ Hid (SlV W W.heap.size (some ⟨b, 0, none⟩) 8 c ((S t).toL.map W64)) ∧ Hid (Below gv w5 W)) (fun _ tv _ => 80 - (intOf tv).toNat)
          case atStart => exact ⟨0, b5, c5, Nat.zero_le _, rfl, rfl, hgb5, Lib.hid (by rw [HS0.out]; exact HO5.out), Lib.hid (Below.refl _ _)⟩
          case round =>
            obtain ⟨t, b, c, ht, rfl, rfl, hgb, HV, HBV⟩ := hrel
            by_cases ht64 : t < 80
            · have hti : (t : Int) < 80 := by omega
              have hti0 : (0 : Int) ≤ t := by omega
              have cl := HV.out.2.2.2 (by simp [H64.toL])
              have hc8n : 8 ≤ c := HV.out.cap
              have hc8 : (8 : Int) ≤ c := by omega
              have hc0 : (c : Int) ≤ 9223372036854775807 := by have := HV.out.max; omega
              obtain ⟨⟨va, vb, vc, vd, ve, vf, vg, vh⟩, hst⟩ : ∃ x, S t = x := ⟨_, rfl⟩
              rw [hst] at cl
              obtain ⟨b', o', e, hbW, cl⟩ := cl
              injection e with e
              injection e with e1 e2
              subst e1
              subst e2
              have d0 := cl 0 (W64 va) rfl
              have d1 := cl 1 (W64 vb) rfl
              have d2 := cl 2 (W64 vc) rfl
              have d3 := cl 3 (W64 vd) rfl
              have d4 := cl 4 (W64 ve) rfl
              have d5 := cl 5 (W64 vf) rfl
              have d6 := cl 6 (W64 vg) rfl
              have d7 := cl 7 (W64 vh) rfl
              simp only [Nat.zero_add] at d0 d1 d2 d3 d4 d5 d6 d7
              have ckt := (HRK5.out.below HBV.out (by omega)).at_ (i := t) (v := W64 ((rootsL.getD t 0))) (by rw [List.getElem?_map, List.getD_eq_getElem?_getD, List.getElem?_eq_getElem (show t < rootsL.length from ht64)]; rfl)
              have cwt := (HRW5.out.below HBV.out (by omega)).at_ (i := t) (v := W64 (ws.getD t 0)) (by rw [List.getElem?_map, List.getD_eq_getElem?_getD, List.getElem?_eq_getElem (by rw [HWL.out]; exact ht64)]; rfl)
              obtain ⟨kt, hkt⟩ : ∃ x, (rootsL.getD t 0) = x := ⟨_, rfl⟩
              obtain ⟨wt, hwt⟩ : ∃ x, ws.getD t 0 = x := ⟨_, rfl⟩
              rw [hkt] at ckt
              rw [hwt] at cwt
              have HST := Lib.hid hst
              have HKT := Lib.hid hkt
              have HWT := Lib.hid hwt
              clear hst hkt hwt cl
              go_wp2_with fail
              refine (wpIn_wide (n := 9)).1 (wpIn_region_pure0 rfl hmx [(108, .slice (some ⟨b, 0, none⟩) 8 c), (109, .pointer (some ⟨b, 7, none⟩)), (110, W64 vh), (111, W64 ve), (112, W64 (rl64 50 ve)), (113, W64 ve), (114, W64 (rl64 46 ve)), (115, W64 ((rl64 50 ve) ^^^ (rl64 46 ve))), (116, W64 ve), (117, W64 (rl64 23 ve)), (118, W64 (((rl64 50 ve) ^^^ (rl64 46 ve)) ^^^ (rl64 23 ve))), (119, W64 (vh + (((rl64 50 ve) ^^^ (rl64 46 ve)) ^^^ (rl64 23 ve)))), (120, W64 ve), (121, .slice (some ⟨b, 0, none⟩) 8 c), (122, .pointer (some ⟨b, 5, none⟩)), (123, W64 vf), (124, W64 (ve &&& vf)), (125, W64 ve), (126, W64 (~~~ve)), (127, .slice (some ⟨b, 0, none⟩) 8 c), (128, .pointer (some ⟨b, 6, none⟩)), (129, W64 vg), (130, W64 ((~~~ve) &&& vg)), (131, W64 ((ve &&& vf) ^^^ ((~~~ve) &&& vg))), (132, W64 ((vh + (((rl64 50 ve) ^^^ (rl64 46 ve)) ^^^ (rl64 23 ve))) + ((ve &&& vf) ^^^ ((~~~ve) &&& vg)))), (133, .slice (some ⟨g0, 0, none⟩) 80 80), (134, .int .i64 (t : Int)), (135, .pointer (some ⟨g0, t, none⟩)), (136, W64 kt), (137, W64 (((vh + (((rl64 50 ve) ^^^ (rl64 46 ve)) ^^^ (rl64 23 ve))) + ((ve &&& vf) ^^^ ((~~~ve) &&& vg))) + kt)), (138, .slice (some ⟨gw, 0, none⟩) 80 80), (139, .int .i64 (t : Int)), (140, .pointer (some ⟨gw, t, none⟩)), (141, W64 wt), (142, W64 ((((vh + (((rl64 50 ve) ^^^ (rl64 46 ve)) ^^^ (rl64 23 ve))) + ((ve &&& vf) ^^^ ((~~~ve) &&& vg))) + kt) + wt)), (15, W64 ((((vh + (((rl64 50 ve) ^^^ (rl64 46 ve)) ^^^ (rl64 23 ve))) + ((ve &&& vf) ^^^ ((~~~ve) &&& vg))) + kt) + wt))] (by kernel_rfl) (by kernel_rfl) (by kernel_rfl) (by kernel_rfl) (by first | rfl | simp) ?ops20 ?end20)
              case ops20 =>
                intro i o hi ho
                have hi3 : i < 36 := hi
                have hi2 : i = 0 ∨ i = 1 ∨ i = 2 ∨ i = 3 ∨ i = 4 ∨ i = 5 ∨ i = 6 ∨ i = 7 ∨ i = 8 ∨ i = 9 ∨ i = 10 ∨ i = 11 ∨ i = 12 ∨ i = 13 ∨ i = 14 ∨ i = 15 ∨ i = 16 ∨ i = 17 ∨ i = 18 ∨ i = 19 ∨ i = 20 ∨ i = 21 ∨ i = 22 ∨ i = 23 ∨ i = 24 ∨ i = 25 ∨ i = 26 ∨ i = 27 ∨ i = 28 ∨ i = 29 ∨ i = 30 ∨ i = 31 ∨ i = 32 ∨ i = 33 ∨ i = 34 ∨ i = 35 := by omega
                rcases hi2 with rfl | rfl | rfl | rfl | rfl | rfl | rfl | rfl | rfl | rfl | rfl | rfl | rfl | rfl | rfl | rfl | rfl | rfl | rfl | rfl | rfl | rfl | rfl | rfl | rfl | rfl | rfl | rfl | rfl | rfl | rfl | rfl | rfl | rfl | rfl | rfl
                all_goals
                  have ho' := ho
                  simp only [List.getElem?_toArray, List.getElem?_cons_zero, List.getElem?_cons_succ, Option.some.injEq] at ho'
                  subst ho'
                  refine ⟨(by intro c h; cases h), fun q => ⟨fun _ _ => trivial, ?_⟩⟩
                · exact .inl (by simp [execOp, evP, valP, Act.eval, List.lookup_cons])
                · exact .inl (by simp [execOp, evP, valP, Act.eval, List.lookup_cons, go_sem, d0, d1, d2, d3, d4, d5, d6, d7, ckt, cwt, hti, hc8, hc0, b64_xor, b64_add, b64_and, b64_not])
                · exact .inl (by simp [execOp, evP, valP, Act.eval, List.lookup_cons, go_sem, d0, d1, d2, d3, d4, d5, d6, d7, ckt, cwt, hti, hc8, hc0, b64_xor, b64_add, b64_and, b64_not])
                · exact .inl (by simp [execOp, evP, valP, Act.eval, List.lookup_cons])
                · refine .inr ⟨116, #[W64 ve, .int .u64 14], ?_, (callsIn_wide.2 (rightL_any _ (ve) 14 (by decide) (by decide))).mono ?_⟩
                  · simp [execOp, evP, valP, Act.eval, List.lookup_cons, go_sem]
                  · rintro e w' ⟨rfl, rfl⟩
                    exact ⟨rfl, 0, rfl⟩
                · exact .inl (by simp [execOp, evP, valP, Act.eval, List.lookup_cons])
                · refine .inr ⟨116, #[W64 ve, .int .u64 18], ?_, (callsIn_wide.2 (rightL_any _ (ve) 18 (by decide) (by decide))).mono ?_⟩
                  · simp [execOp, evP, valP, Act.eval, List.lookup_cons, go_sem]
                  · rintro e w' ⟨rfl, rfl⟩
                    exact ⟨rfl, 0, rfl⟩
                · exact .inl (by simp [execOp, evP, valP, Act.eval, List.lookup_cons, go_sem, d0, d1, d2, d3, d4, d5, d6, d7, ckt, cwt, hti, hc8, hc0, b64_xor, b64_add, b64_and, b64_not])
                · exact .inl (by simp [execOp, evP, valP, Act.eval, List.lookup_cons])
                · refine .inr ⟨116, #[W64 ve, .int .u64 41], ?_, (callsIn_wide.2 (rightL_any _ (ve) 41 (by decide) (by decide))).mono ?_⟩
                  · simp [execOp, evP, valP, Act.eval, List.lookup_cons, go_sem]
                  · rintro e w' ⟨rfl, rfl⟩
                    exact ⟨rfl, 0, rfl⟩
                · exact .inl (by simp [execOp, evP, valP, Act.eval, List.lookup_cons, go_sem, d0, d1, d2, d3, d4, d5, d6, d7, ckt, cwt, hti, hc8, hc0, b64_xor, b64_add, b64_and, b64_not])
                · exact .inl (by simp [execOp, evP, valP, Act.eval, List.lookup_cons, go_sem, d0, d1, d2, d3, d4, d5, d6, d7, ckt, cwt, hti, hc8, hc0, b64_xor, b64_add, b64_and, b64_not])
                · exact .inl (by simp [execOp, evP, valP, Act.eval, List.lookup_cons])
                · exact .inl (by simp [execOp, evP, valP, Act.eval, List.lookup_cons])
                · exact .inl (by simp [execOp, evP, valP, Act.eval, List.lookup_cons, go_sem, d0, d1, d2, d3, d4, d5, d6, d7, ckt, cwt, hti, hc8, hc0, b64_xor, b64_add, b64_and, b64_not])
                · exact .inl (by simp [execOp, evP, valP, Act.eval, List.lookup_cons, go_sem, d0, d1, d2, d3, d4, d5, d6, d7, ckt, cwt, hti, hc8, hc0, b64_xor, b64_add, b64_and, b64_not])
                · exact .inl (by simp [execOp, evP, valP, Act.eval, List.lookup_cons, go_sem, d0, d1, d2, d3, d4, d5, d6, d7, ckt, cwt, hti, hc8, hc0, b64_xor, b64_add, b64_and, b64_not])
                · exact .inl (by simp [execOp, evP, valP, Act.eval, List.lookup_cons])
                · exact .inl (by simp [execOp, evP, valP, Act.eval, List.lookup_cons, go_sem, d0, d1, d2, d3, d4, d5, d6, d7, ckt, cwt, hti, hc8, hc0, b64_xor, b64_add, b64_and, b64_not] <;> exact b64_not _)
                · exact .inl (by simp [execOp, evP, valP, Act.eval, List.lookup_cons])
                · exact .inl (by simp [execOp, evP, valP, Act.eval, List.lookup_cons, go_sem, d0, d1, d2, d3, d4, d5, d6, d7, ckt, cwt, hti, hc8, hc0, b64_xor, b64_add, b64_and, b64_not])
                · exact .inl (by simp [execOp, evP, valP, Act.eval, List.lookup_cons, go_sem, d0, d1, d2, d3, d4, d5, d6, d7, ckt, cwt, hti, hc8, hc0, b64_xor, b64_add, b64_and, b64_not])
                · exact .inl (by simp [execOp, evP, valP, Act.eval, List.lookup_cons, go_sem, d0, d1, d2, d3, d4, d5, d6, d7, ckt, cwt, hti, hc8, hc0, b64_xor, b64_add, b64_and, b64_not])
                · exact .inl (by simp [execOp, evP, valP, Act.eval, List.lookup_cons, go_sem, d0, d1, d2, d3, d4, d5, d6, d7, ckt, cwt, hti, hc8, hc0, b64_xor, b64_add, b64_and, b64_not])
                · exact .inl (by simp [execOp, evP, valP, Act.eval, List.lookup_cons, go_sem, d0, d1, d2, d3, d4, d5, d6, d7, ckt, cwt, hti, hc8, hc0, b64_xor, b64_add, b64_and, b64_not])
                · exact .inl (by simp [execOp, evP, valP, Act.eval, List.lookup_cons])
                · exact .inl (by simp [execOp, evP, valP, Act.eval, List.lookup_cons])
                · exact .inl (by simp [execOp, evP, valP, Act.eval, List.lookup_cons, go_sem, d0, d1, d2, d3, d4, d5, d6, d7, ckt, cwt, hti, hc8, hc0, b64_xor, b64_add, b64_and, b64_not])
                · exact .inl (by simp [execOp, evP, valP, Act.eval, List.lookup_cons, go_sem, d0, d1, d2, d3, d4, d5, d6, d7, ckt, cwt, hti, hc8, hc0, b64_xor, b64_add, b64_and, b64_not])
                · exact .inl (by simp [execOp, evP, valP, Act.eval, List.lookup_cons, go_sem, d0, d1, d2, d3, d4, d5, d6, d7, ckt, cwt, hti, hc8, hc0, b64_xor, b64_add, b64_and, b64_not])
                · exact .inl (by simp [execOp, evP, valP, Act.eval, List.lookup_cons])
                · exact .inl (by simp [execOp, evP, valP, Act.eval, List.lookup_cons])
                · exact .inl (by simp [execOp, evP, valP, Act.eval, List.lookup_cons, go_sem, d0, d1, d2, d3, d4, d5, d6, d7, ckt, cwt, hti, hc8, hc0, b64_xor, b64_add, b64_and, b64_not])
                · exact .inl (by simp [execOp, evP, valP, Act.eval, List.lookup_cons, go_sem, d0, d1, d2, d3, d4, d5, d6, d7, ckt, cwt, hti, hc8, hc0, b64_xor, b64_add, b64_and, b64_not])
                · exact .inl (by simp [execOp, evP, valP, Act.eval, List.lookup_cons, go_sem, d0, d1, d2, d3, d4, d5, d6, d7, ckt, cwt, hti, hc8, hc0, b64_xor, b64_add, b64_and, b64_not])
                · exact .inl (by simp [execOp, evP, valP, Act.eval, List.lookup_cons])
              case end20 =>
                intro q
                simp [wrote, valP, Act.put, List.lookup_cons]
                obtain ⟨w6, hw6⟩ : ∃ V, wr.drewN q = V := ⟨_, rfl⟩
                rw [hw6]
                have ew6 : ∀ p, w6.cell? p = wr.cell? p := by rw [← hw6]; intro p; rfl
                have HBw6 := Lib.hid (show Below gv w5 w6 by rw [← hw6]; exact below_drewN HBV.out _)
                rw [← ew6] at d0 d1 d2 d3 d4 d5 d6 d7 ckt cwt
                obtain ⟨y1, hy1⟩ : ∃ y, ((((vh + (((rl64 50 ve) ^^^ (rl64 46 ve)) ^^^ (rl64 23 ve))) + ((ve &&& vf) ^^^ ((~~~ve) &&& vg))) + kt) + wt) = y := ⟨_, rfl⟩
                rw [hy1]
                have HY1 := Lib.hid hy1
                clear hw6 ew6 hy1
                go_wp2_with fail
                refine (wpIn_wide (n := 9)).1 (wpIn_region_pure0 rfl hmx [(143, W64 va), (144, W64 (rl64 36 va)), (145, W64 va), (146, W64 (rl64 30 va)), (147, W64 ((rl64 36 va) ^^^ (rl64 30 va))), (148, W64 va), (149, W64 (rl64 25 va)), (150, W64 (((rl64 36 va) ^^^ (rl64 30 va)) ^^^ (rl64 25 va))), (151, W64 va), (152, .slice (some ⟨b, 0, none⟩) 8 c), (153, .pointer (some ⟨b, 1, none⟩)), (154, W64 vb), (155, W64 (va &&& vb)), (156, W64 va), (157, .slice (some ⟨b, 0, none⟩) 8 c), (158, .pointer (some ⟨b, 2, none⟩)), (159, W64 vc), (160, W64 (va &&& vc)), (161, W64 ((va &&& vb) ^^^ (va &&& vc))), (162, .slice (some ⟨b, 0, none⟩) 8 c), (163, .pointer (some ⟨b, 1, none⟩)), (164, W64 vb), (165, .slice (some ⟨b, 0, none⟩) 8 c), (166, .pointer (some ⟨b, 2, none⟩)), (167, W64 vc), (168, W64 (vb &&& vc)), (169, W64 (((va &&& vb) ^^^ (va &&& vc)) ^^^ (vb &&& vc))), (170, W64 ((((rl64 36 va) ^^^ (rl64 30 va)) ^^^ (rl64 25 va)) + (((va &&& vb) ^^^ (va &&& vc)) ^^^ (vb &&& vc)))), (16, W64 ((((rl64 36 va) ^^^ (rl64 30 va)) ^^^ (rl64 25 va)) + (((va &&& vb) ^^^ (va &&& vc)) ^^^ (vb &&& vc))))] (by kernel_rfl) (by kernel_rfl) (by kernel_rfl) (by kernel_rfl) (by first | rfl | simp) ?ops21 ?end21)
                case ops21 =>
                  intro i o hi ho
                  have hi3 : i < 29 := hi
                  have hi2 : i = 0 ∨ i = 1 ∨ i = 2 ∨ i = 3 ∨ i = 4 ∨ i = 5 ∨ i = 6 ∨ i = 7 ∨ i = 8 ∨ i = 9 ∨ i = 10 ∨ i = 11 ∨ i = 12 ∨ i = 13 ∨ i = 14 ∨ i = 15 ∨ i = 16 ∨ i = 17 ∨ i = 18 ∨ i = 19 ∨ i = 20 ∨ i = 21 ∨ i = 22 ∨ i = 23 ∨ i = 24 ∨ i = 25 ∨ i = 26 ∨ i = 27 ∨ i = 28 := by omega
                  rcases hi2 with rfl | rfl | rfl | rfl | rfl | rfl | rfl | rfl | rfl | rfl | rfl | rfl | rfl | rfl | rfl | rfl | rfl | rfl | rfl | rfl | rfl | rfl | rfl | rfl | rfl | rfl | rfl | rfl | rfl
                  all_goals
                    have ho' := ho
                    simp only [List.getElem?_toArray, List.getElem?_cons_zero, List.getElem?_cons_succ, Option.some.injEq] at ho'
                    subst ho'
                    refine ⟨(by intro c h; cases h), fun q => ⟨fun _ _ => trivial, ?_⟩⟩
                  · exact .inl (by simp [execOp, evP, valP, Act.eval, List.lookup_cons])
                  · refine .inr ⟨116, #[W64 va, .int .u64 28], ?_, (callsIn_wide.2 (rightL_any _ (va) 28 (by decide) (by decide))).mono ?_⟩
                    · simp [execOp, evP, valP, Act.eval, List.lookup_cons, go_sem]
                    · rintro e w' ⟨rfl, rfl⟩
                      exact ⟨rfl, 0, rfl⟩
                  · exact .inl (by simp [execOp, evP, valP, Act.eval, List.lookup_cons])
                  · refine .inr ⟨116, #[W64 va, .int .u64 34], ?_, (callsIn_wide.2 (rightL_any _ (va) 34 (by decide) (by decide))).mono ?_⟩
                    · simp [execOp, evP, valP, Act.eval, List.lookup_cons, go_sem]
                    · rintro e w' ⟨rfl, rfl⟩
                      exact ⟨rfl, 0, rfl⟩
                  · exact .inl (by simp [execOp, evP, valP, Act.eval, List.lookup_cons, go_sem, d0, d1, d2, d3, d4, d5, d6, d7, ckt, cwt, hti, hc8, hc0, b64_xor, b64_add, b64_and, b64_not])
                  · exact .inl (by simp [execOp, evP, valP, Act.eval, List.lookup_cons])
                  · refine .inr ⟨116, #[W64 va, .int .u64 39], ?_, (callsIn_wide.2 (rightL_any _ (va) 39 (by decide) (by decide))).mono ?_⟩
                    · simp [execOp, evP, valP, Act.eval, List.lookup_cons, go_sem]
                    · rintro e w' ⟨rfl, rfl⟩
                      exact ⟨rfl, 0, rfl⟩
                  · exact .inl (by simp [execOp, evP, valP, Act.eval, List.lookup_cons, go_sem, d0, d1, d2, d3, d4, d5, d6, d7, ckt, cwt, hti, hc8, hc0, b64_xor, b64_add, b64_and, b64_not])
                  · exact .inl (by simp [execOp, evP, valP, Act.eval, List.lookup_cons])
                  · exact .inl (by simp [execOp, evP, valP, Act.eval, List.lookup_cons])
                  · exact .inl (by simp [execOp, evP, valP, Act.eval, List.lookup_cons, go_sem, d0, d1, d2, d3, d4, d5, d6, d7, ckt, cwt, hti, hc8, hc0, b64_xor, b64_add, b64_and, b64_not])
                  · exact .inl (by simp [execOp, evP, valP, Act.eval, List.lookup_cons, go_sem, d0, d1, d2, d3, d4, d5, d6, d7, ckt, cwt, hti, hc8, hc0, b64_xor, b64_add, b64_and, b64_not])
                  · exact .inl (by simp [execOp, evP, valP, Act.eval, List.lookup_cons, go_sem, d0, d1, d2, d3, d4, d5, d6, d7, ckt, cwt, hti, hc8, hc0, b64_xor, b64_add, b64_and, b64_not])
                  · exact .inl (by simp [execOp, evP, valP, Act.eval, List.lookup_cons])
                  · exact .inl (by simp [execOp, evP, valP, Act.eval, List.lookup_cons])
                  · exact .inl (by simp [execOp, evP, valP, Act.eval, List.lookup_cons, go_sem, d0, d1, d2, d3, d4, d5, d6, d7, ckt, cwt, hti, hc8, hc0, b64_xor, b64_add, b64_and, b64_not])
                  · exact .inl (by simp [execOp, evP, valP, Act.eval, List.lookup_cons, go_sem, d0, d1, d2, d3, d4, d5, d6, d7, ckt, cwt, hti, hc8, hc0, b64_xor, b64_add, b64_and, b64_not])
                  · exact .inl (by simp [execOp, evP, valP, Act.eval, List.lookup_cons, go_sem, d0, d1, d2, d3, d4, d5, d6, d7, ckt, cwt, hti, hc8, hc0, b64_xor, b64_add, b64_and, b64_not])
                  · exact .inl (by simp [execOp, evP, valP, Act.eval, List.lookup_cons, go_sem, d0, d1, d2, d3, d4, d5, d6, d7, ckt, cwt, hti, hc8, hc0, b64_xor, b64_add, b64_and, b64_not])
                  · exact .inl (by simp [execOp, evP, valP, Act.eval, List.lookup_cons])
                  · exact .inl (by simp [execOp, evP, valP, Act.eval, List.lookup_cons, go_sem, d0, d1, d2, d3, d4, d5, d6, d7, ckt, cwt, hti, hc8, hc0, b64_xor, b64_add, b64_and, b64_not])
                  · exact .inl (by simp [execOp, evP, valP, Act.eval, List.lookup_cons, go_sem, d0, d1, d2, d3, d4, d5, d6, d7, ckt, cwt, hti, hc8, hc0, b64_xor, b64_add, b64_and, b64_not])
                  · exact .inl (by simp [execOp, evP, valP, Act.eval, List.lookup_cons])
                  · exact .inl (by simp [execOp, evP, valP, Act.eval, List.lookup_cons, go_sem, d0, d1, d2, d3, d4, d5, d6, d7, ckt, cwt, hti, hc8, hc0, b64_xor, b64_add, b64_and, b64_not])
                  · exact .inl (by simp [execOp, evP, valP, Act.eval, List.lookup_cons, go_sem, d0, d1, d2, d3, d4, d5, d6, d7, ckt, cwt, hti, hc8, hc0, b64_xor, b64_add, b64_and, b64_not])
                  · exact .inl (by simp [execOp, evP, valP, Act.eval, List.lookup_cons, go_sem, d0, d1, d2, d3, d4, d5, d6, d7, ckt, cwt, hti, hc8, hc0, b64_xor, b64_add, b64_and, b64_not])
                  · exact .inl (by simp [execOp, evP, valP, Act.eval, List.lookup_cons, go_sem, d0, d1, d2, d3, d4, d5, d6, d7, ckt, cwt, hti, hc8, hc0, b64_xor, b64_add, b64_and, b64_not])
                  · exact .inl (by simp [execOp, evP, valP, Act.eval, List.lookup_cons, go_sem, d0, d1, d2, d3, d4, d5, d6, d7, ckt, cwt, hti, hc8, hc0, b64_xor, b64_add, b64_and, b64_not])
                  · exact .inl (by simp [execOp, evP, valP, Act.eval, List.lookup_cons])
                case end21 =>
                  intro q
                  simp [wrote, valP, Act.put, List.lookup_cons]
                  obtain ⟨w7, hw7⟩ : ∃ V, w6.drewN q = V := ⟨_, rfl⟩
                  rw [hw7]
                  have ew7 : ∀ p, w7.cell? p = w6.cell? p := by rw [← hw7]; intro p; rfl
                  have HBw7 := Lib.hid (show Below gv w5 w7 by rw [← hw7]; exact below_drewN HBw6.out _)
                  rw [← ew7] at d0 d1 d2 d3 d4 d5 d6 d7 ckt cwt
                  obtain ⟨y2, hy2⟩ : ∃ y, ((((rl64 36 va) ^^^ (rl64 30 va)) ^^^ (rl64 25 va)) + (((va &&& vb) ^^^ (va &&& vc)) ^^^ (vb &&& vc))) = y := ⟨_, rfl⟩
                  rw [hy2]
                  have HY2 := Lib.hid hy2
                  clear hw7 ew7 hy2
                  go_wp2_with fail
                  refine wp_region_still_tail 26 (by kernel_rfl) (by kernel_rfl) ?_
                  simp only [List.take_succ_cons, List.take_zero, List.drop_succ_cons, List.drop_zero]
                  iterate 26 (refine wpStill_step (fun K hK => ?_); go_simp; refine hK _ ?_; clear hK K)
                  refine wpStill_nil ?_
                  go_wp2_with fail
                  have hv : (S (t + 1)).toL = [y1 + y2, va, vb, vc, vd + y1, ve, vf, vg] := by rw [HS1.out, HST.out, HKT.out, HWT.out, ← HY1.out, ← HY2.out]; rfl
                  have hgw7 : gv ≤ w7.heap.size := by have h1 := HBw7.out.size; have h2 := HB5.out.size; have h3 := HGV.out; omega
                  simp only [b64_add]
                  refine ⟨⟨t + 1, w7.heap.size, 8, by omega, rfl, by go_num, hgw7, ?_, Lib.hid (below_drewN (HBw7.out.alloc hgw7 _) 1)⟩, by simp [intOf]; omega⟩
                  rw [hv]
                  exact Lib.hid ((RowV.new w7 59 ([y1 + y2, va, vb, vc, vd + y1, ve, vf, vg].map W64)).sl (by simp))
            · obtain rfl : t = 80 := by omega
              rw [show ((80 : Nat) : Int) = 80 from rfl]
              obtain ⟨wq, rfl⟩ : ∃ V, V = wr := ⟨_, rfl⟩
              obtain ⟨vs, hvs⟩ : ∃ l, (S 80).toL = l := ⟨_, rfl⟩
              have hvl : vs.length = 8 := by rw [← hvs]; rfl
              rw [hvs] at HV
              obtain ⟨cs, hcs⟩ : ∃ l, [s0, s1, s2, s3, s4, s5, s6, s7] = l := ⟨_, rfl⟩
              have hcl : cs.length = 8 := by rw [← hcs]; rfl
              have HRHQ : Hid (RowV 59 wq gh (cs.map W64)) := Lib.hid (by rw [← hcs]; exact (HRH.out.below HB5.out (by omega)).below HBV.out (by omega))
              have HCS := Lib.hid hcs
              have HVS := Lib.hid hvs
              have hcap8 : 8 ≤ c := HV.out.cap
              have kc8 : (8 : Int) ≤ c := by omega
              have kc9 : (c : Int) ≤ 9223372036854775807 := by have := HV.out.max; omega
              clear hcs hvs
              have hgbq : b < wq.heap.size := by
                obtain ⟨b', o', e, hb', _⟩ := HV.out.2.2.2 (by intro e; have := congrArg List.length e; simp [hvl] at this)
                injection e with e
                injection e with e1
                omega
              go_wp2
              go_loopw [17] (fun kv W => ∃ k : Nat, k ≤ 8 ∧ kv = .int .i64 (k : Int) ∧ Hid (RowV 59 W gh (((add64L cs vs).take k ++ cs.drop k).map W64)) ∧ Hid (OnlyV wq W gh)) (fun kv _ => 8 - (intOf kv).toNat)
              case atStart => exact ⟨0, by decide, rfl, Lib.hid (by simpa using HRHQ.out), Lib.hid (OnlyV.refl _ _)⟩
              case round =>
                obtain ⟨k, hk, rfl, HRK8, HOQ⟩ := hrel
                by_cases hk8 : k < 8
                · have hki : (k : Int) < 8 := by omega
                  have hki0 : (0 : Int) ≤ k := by omega
                  obtain ⟨b', o', e, hb', clv⟩ := HV.out.2.2.2 (by intro e; have := congrArg List.length e; simp [hvl] at this)
                  injection e with e
                  injection e with e1 e2
                  subst e1
                  subst e2
                  obtain ⟨x, hx⟩ : ∃ x, cs[k]? = some x := ⟨cs[k], List.getElem?_eq_getElem (by omega)⟩
                  obtain ⟨y, hy⟩ : ∃ y, vs[k]? = some y := ⟨vs[k], List.getElem?_eq_getElem (by omega)⟩
                  have hal : (add64L cs vs).length = 8 := by simp [add64L, hcl, hvl]
                  have haz : (add64L cs vs)[k]? = some (x + y) := by rw [add64L, List.getElem?_map, List.getElem?_zip_eq_some (z := (x, y)) |>.2 ⟨hx, hy⟩]; rfl
                  have cy : wr.cell? ⟨b, k, none⟩ = some (W64 y) := by
                    have := clv k (W64 y) (by rw [List.getElem?_map, hy]; rfl)
                    rw [Nat.zero_add] at this
                    exact (HOQ.out.cell (p := ⟨b, k, none⟩) hgbq (by show b ≠ gh; omega)).trans this
                  have cx : wr.cell? ⟨gh, k, none⟩ = some (W64 x) := HRK8.out.at_ (by
                    rw [List.getElem?_map, List.getElem?_append_right (by simp; omega), List.getElem?_drop]
                    simp only [List.length_take, hal]
                    rw [show k + (k - min k 8) = k by omega, hx]; rfl)
                  have hfz := HRK8.out.frozen k
                  have hnr := HRK8.out.set k (W64 (x + y))
                  rw [← List.map_set] at hnr
                  have hls : ((add64L cs vs).take k ++ cs.drop k).set k (x + y) = (add64L cs vs).take (k + 1) ++ cs.drop (k + 1) := by
                    rw [List.set_append_right _ _ (by simp; omega)]
                    simp only [List.length_take, hal]
                    rw [show k - min k 8 = 0 by omega, List.take_add_one, haz, List.drop_eq_getElem_cons (by omega : k < cs.length), List.set_cons_zero]
                    simp
                  rw [hls] at hnr
                  have HNR := Lib.hid hnr
                  have HOX := Lib.hid (HOQ.out.set k (W64 (x + y)))
                  clear hx hy haz hls hnr clv
                  go_wp2_with fail
                  refine (wpIn_wide (n := 9)).1 (wpIn_region_pure rfl hmx [(202, .slice (some ⟨gh, 0, none⟩) 8 8), (203, .int .i64 (k : Int)), (204, .pointer (some ⟨gh, k, none⟩)), (205, W64 x), (206, .slice (some ⟨b, 0, none⟩) 8 c), (207, .int .i64 (k : Int)), (208, .pointer (some ⟨b, k, none⟩)), (209, W64 y), (210, W64 (x + y)), (211, .pointer (some ⟨gh, k, none⟩))] (by kernel_rfl) (by kernel_rfl) (by kernel_rfl) (by kernel_rfl) (by first | rfl | simp) 10 (wr.setCell ⟨gh, k, none⟩ (W64 (x + y))) rfl (by kernel_rfl) ?ops26 ?last26 ?end26)
                  case ops26 =>
                    intro i o hi ho
                    have hi2 : i = 0 ∨ i = 1 ∨ i = 2 ∨ i = 3 ∨ i = 4 ∨ i = 5 ∨ i = 6 ∨ i = 7 ∨ i = 8 ∨ i = 9 := by omega
                    rcases hi2 with rfl | rfl | rfl | rfl | rfl | rfl | rfl | rfl | rfl | rfl
                    all_goals
                      have ho' := ho
                      simp only [List.getElem?_toArray, List.getElem?_cons_zero, List.getElem?_cons_succ, Option.some.injEq] at ho'
                      subst ho'
                      refine ⟨(by intro c h; cases h), fun q => ⟨fun _ _ => trivial, ?_⟩⟩
                    · exact .inl (by simp [execOp, evP, valP, Act.eval, List.lookup_cons])
                    · exact .inl (by simp [execOp, evP, valP, Act.eval, List.lookup_cons])
                    · exact .inl (by simp [execOp, evP, valP, Act.eval, List.lookup_cons, go_sem, cx, cy, hki, hki0, kc8, kc9, b64_add])
                    · exact .inl (by simp [execOp, evP, valP, Act.eval, List.lookup_cons, go_sem, cx, cy, hki, hki0, kc8, kc9, b64_add])
                    · exact .inl (by simp [execOp, evP, valP, Act.eval, List.lookup_cons])
                    · exact .inl (by simp [execOp, evP, valP, Act.eval, List.lookup_cons])
                    · exact .inl (by simp [execOp, evP, valP, Act.eval, List.lookup_cons, go_sem, cx, cy, hki, hki0, kc8, kc9, b64_add])
                    · exact .inl (by simp [execOp, evP, valP, Act.eval, List.lookup_cons, go_sem, cx, cy, hki, hki0, kc8, kc9, b64_add])
                    · exact .inl (by simp [execOp, evP, valP, Act.eval, List.lookup_cons, go_sem, cx, cy, hki, hki0, kc8, kc9, b64_add])
                    · exact .inl (by simp [execOp, evP, valP, Act.eval, List.lookup_cons, go_sem, cx, cy, hki, hki0, kc8, kc9, b64_add])
                  case last26 =>
                    intro o ho
                    have ho' := ho
                    simp only [List.getElem?_toArray, List.getElem?_cons_zero, List.getElem?_cons_succ, Option.some.injEq] at ho'
                    subst ho'
                    refine ⟨(by intro c h; cases h), fun q => ⟨fun _ _ => trivial, .inl ⟨?_, rfl⟩⟩⟩
                    simp [execOp, evP, valP, Act.eval, List.lookup_cons, go_sem, cx, hfz, hki]
                    try rfl
                  case end26 =>
                    intro q
                    simp [wrote, valP, Act.put, List.lookup_cons]
                    go_wp2
                    go_roundw
                    case rel => exact ⟨k + 1, by omega, by go_num, Lib.hid HNR.out, Lib.hid (OnlyV.drewN HOX.out _)⟩
                    case measure => simp [intOf]; omega
                · obtain rfl : k = 8 := by omega
                  have hch : ch64 xs ms (i + 1) = add64L cs vs := by
                    rw [ch64, HBI.out, HWS.out, HHC.out, show H64.ofL [s0, s1, s2, s3, s4, s5, s6, s7] = ⟨s0, s1, s2, s3, s4, s5, s6, s7⟩ from rfl, HSS.out, HVS.out, HCS.out]
                  have hal : (add64L cs vs).length = 8 := by simp [add64L, hcl, hvl]
                  have hfin : RowV 59 wr gh ((ch64 xs ms (i + 1)).map W64) := by
                    have := HRK8.out
                    rw [List.take_of_length_le (by omega), List.drop_eq_nil_of_le (by omega), List.append_nil] at this
                    rw [hch]; exact this
                  have hwr : OnlyV wo wr gh := ((OnlyV.of_below (a := wo) (w := wp) (by rw [HGW.out]; exact HBALL.out) gh).trans (OnlyV.of_below (a := wp) (w := wq) (by rw [HGV.out]; exact HB5.out.trans HBV.out) gh)).trans HOQ.out
                  have hall : OnlyV w2 wr gh := HOV.out.trans hwr
                  have hsm := HS.out.onlyN hwr (by omega) HOV.out.size
                  have hkr : RowV 59 wr g0 (rootsL.map W64) := HKR.out.only hwr (by omega)
                  have HFIN := Lib.hid hfin
                  have HALL := Lib.hid hall
                  have HSMM := Lib.hid hsm
                  have HKRR := Lib.hid hkr
                  have hcapZ := HS.out.cap
                  clear hch hal hfin hwr hall hsm hkr
                  by_cases hc64 : c' = 128
                  · obtain rfl : Z = 128 := by omega
                    subst hc64
                    go_wp2
                    go_roundw
                    case rel =>
                      have hz0 : 128 * (N - (i + 1)) = 0 := by have := HZ.out; omega
                      refine ⟨i + 1, off, 0, by omega, by rw [hz0], ?_, Lib.hid HFIN.out, Lib.hid HKRR.out, Lib.hid HALL.out⟩
                      rw [hz0, List.drop_eq_nil_of_le (by rw [HML.out]; have := HZ.out; omega)]
                      exact Lib.hid (SlV.nil _ _ _ (by decide))
                    case measure => simp
                  · have hc64' : ¬ (c' : Int) = 128 := by omega
                    go_wp2
                    go_roundw
                    case rel =>
                      have hz0 : 128 * (N - (i + 1)) = Z - 128 := by have := HZ.out; omega
                      refine ⟨i + 1, off + 128, c' - 128, by omega, by rw [hz0], ?_, Lib.hid HFIN.out, Lib.hid HKRR.out, Lib.hid HALL.out⟩
                      have := HSMM.out.drop (k := 128) (by omega)
                      rw [← List.map_drop, ← HBI.out, List.drop_drop] at this
                      rw [hz0]
                      exact Lib.hid this
                    case measure => simp; omega
    · obtain rfl : i = N := by omega
      have hz0 : 128 * (i - i) = 0 := by omega
      rw [hz0]
      obtain ⟨fs, hfs⟩ : ∃ fs, ch64 xs ms i = fs := ⟨_, rfl⟩
      have hfl : fs.length = 8 := by rw [← hfs]; exact HC64.out i
      rw [hfs] at HR
      have HFS := Lib.hid hfs
      have HFL := Lib.hid hfl
      have hwo0 : g0 ≤ wo.heap.size := by have h1 := HOV.out.size; omega
      have own0 : wo.ownsRow wo.heap.size 5 1 (.slice none 0 0) (8 * 0) ((wordsL64 (fs.take 0)).map W8) := World.ownsRow_nil _ _ _ _
      have hgho : gh < wo.heap.size := HR.out.lt
      have HOWN0 := Lib.hid own0
      clear hfs hfl own0
      go_wp2
      go_loopw [18, 19] (fun ov kv W => ∃ (k c : Nat) (A : Option Addr), k ≤ 8 ∧ kv = .int .i64 (k : Int) ∧ ov = .slice A (8 * k) c ∧ Hid (W.ownsRow wo.heap.size 5 1 (.slice A (8 * k) c) (8 * k) ((wordsL64 (fs.take k)).map W8)) ∧ Hid (Below wo.heap.size wo W)) (fun _ kv _ => 8 - (intOf kv).toNat)
      case atStart => exact ⟨0, 0, none, by decide, rfl, rfl, Lib.hid HOWN0.out, Lib.hid (Below.refl _ _)⟩
      case round =>
        obtain ⟨k, c, A', hk, rfl, rfl, HO, HBK⟩ := hrel
        by_cases hk8 : k < 8
        · have hki : (k : Int) < 8 := by omega
          have hki0 : (0 : Int) ≤ k := by omega
          obtain ⟨x, hx⟩ : ∃ x, fs[k]? = some x := ⟨fs[k]'(by have := HFL.out; omega), List.getElem?_eq_getElem _⟩
          have hrow := HR.out.later HBK.out
          have cx : wr.cell? ⟨gh, k, none⟩ = some (W64 x) := hrow.at_ (by rw [List.getElem?_map, hx]; rfl)
          have HX := Lib.hid hx
          clear hrow hx
          go_wp2_with fail
          refine wp_region_still_tail 11 (by kernel_rfl) (by kernel_rfl) ?_
          simp only [List.take_succ_cons, List.take_zero, List.drop_succ_cons, List.drop_zero]
          iterate 11 (refine wpStill_step (fun K hK => ?_); go_simp; refine hK _ ?_; clear hK K)
          refine wpStill_nil ?_
          go_wp2_with fail
          have d1 : i64 x / (4294967296 : Int) % (4294967296 : Int) = i32 ((x >>> 32).setWidth 32) := by rw [show i64 x / (4294967296 : Int) = i64 (x >>> 32) from b64_shr x 32]; exact c64_32' _
          have d2 : i64 x % (4294967296 : Int) = i32 (x.setWidth 32) := c64_32' x
          rw [d1, d2]
          have hrow2 := two_row wr ((x >>> 32).setWidth 32) (x.setWidth 32)
          have hbv : Below wr.heap.size wr (wr.alloc (.cells #[W32 ((x >>> 32).setWidth 32), W32 (x.setWidth 32)] 102)).drew := ((Below.refl _ _).alloc (Nat.le_refl _) _).drew
          have hwd := words_any _ _ _ 2 2 _ hrow2 (by simp [World.drew]) (by decide)
          obtain ⟨V1, hV1⟩ : ∃ V, (wr.alloc (.cells #[W32 ((x >>> 32).setWidth 32), W32 (x.setWidth 32)] 102)).drew = V := ⟨_, rfl⟩
          rw [hV1] at hbv hwd
          have hV1' : (wr.alloc (.cells #[.int .u32 (i32 ((x >>> 32).setWidth 32)), .int .u32 (i32 (x.setWidth 32))] 102)).drew = V1 := hV1
          rw [hV1']
          have HWD := Lib.hid hwd
          have HBV := Lib.hid hbv
          clear hrow2 hbv hwd d1 d2 hV1 hV1'
          refine HWD.out.mono ?_
          rintro e w9 ⟨v9, rfl, ho9, b9⟩
          obtain ⟨g9, c9, rfl, hg9, hs9⟩ := own_form0 ho9 (by decide)
          have hb9 : Below wr.heap.size wr w9 := HBV.out.trans (b9.mono HBV.out.size)
          have how := own_keep HO.out (fun q hq => hb9.block q (HO.out.lt q hq).2)
          have hone := ones8 (wordsL [(x >>> 32).setWidth 32, x.setWidth 32])
          have hzz := hb9.size
          have hzk := HBK.out.size
          have HOW := Lib.hid how
          have HS9 := Lib.hid hs9
          have HB9 := Lib.hid hb9
          have HONE := Lib.hid hone
          clear ho9 b9 hs9 hb9 how hone HWD HBV
          go_wp2_with (at_builtin; refine wlv_append Tryd.elem8 rfl _ _ rfl wo.heap.size _ (8 * k) _ rfl HOW.out (some ⟨g9, 0, none⟩) 8 c9 _ rfl (by intro h; cases h) _ HS9.out HONE.out (by omega) (by omega) ?_; intro v5 w5 hown5 hgr5; obtain ⟨A5, c5, rfl⟩ := own_form hown5; have HO5 := Lib.hid hown5; have HB5 := Lib.hid ((HBK.out.trans (HB9.out.mono hzk)).grown hgr5 (by omega) (fun q hq => (HOW.out.lt q hq).1)); clear hown5 hgr5)
          go_round
          case rel =>
            refine ⟨k + 1, c5, A5, by omega, by go_num, by rw [show 8 * (k + 1) = 8 * k + 8 by omega], ?_, Lib.hid HB5.out⟩
            have := HO5.out
            rw [← List.map_append, show wordsL [(x >>> 32).setWidth 32, x.setWidth 32] = wordsL64 [x] by simp [wordsL64], ← wordsL64_append, ← take_one_more HX.out, show 8 * k + 8 = 8 * (k + 1) by omega] at this
            exact Lib.hid this
          case measure => simp [intOf]; omega
        · obtain rfl : k = 8 := by omega
          rw [show ((8 : Nat) : Int) = 8 from rfl]
          have e : fs.take 8 = fs := List.take_of_length_le (by have := HFL.out; omega)
          rw [e] at HO
          go_wp2
          go_ret
          refine ⟨_, rfl, ?_, (HO2.out.trans HOV.out).trans (OnlyV.of_below HBK.out gh)⟩
          rw [HFS.out]
          exact own_base HO.out hwo0
end Go.Proofs.YtnpaidieijlkkaaDoor

/- the program's hashes and the reference's: numbers alone. -/
set_option linter.unusedVariables false
set_option linter.unusedSimpArgs false
namespace Go.Proofs.YtnpaidieijlkkaaDoor
open Go.RowKit Go.Shelf
theorem low_add (xs ys : List (BitVec 32)) : lowL (addL xs ys) = add3L xs ys := by
  rw [lowL, addL, add3L, List.map_map]
  refine List.map_congr_left fun p _ => ?_
  show ((p.1 + p.2).setWidth 64).setWidth 32 = p.1 + p.2
  rw [BitVec.setWidth_setWidth_of_le _ (by decide)]
  exact BitVec.setWidth_eq _
theorem low_comp32 (xs : List (BitVec 64)) (bs : List (BitVec 8)) : lowL (comp32 xs bs) = add3L (lowL xs) (st32 (sched32 bs 64) (H32.ofL (lowL xs)) 64).toL := by rw [comp32, low_add]
theorem rd32_take (bs : List (BitVec 8)) (t : Nat) (h : t < 16) : rd32 (bs.take 64) t = rd32 bs t := by
  rw [rd32, rd32, List.drop_take, List.take_take, Nat.min_eq_left (by omega)]
theorem sched32_take (bs : List (BitVec 8)) : ∀ t, sched32 (bs.take 64) t = sched32 bs t
  | 0 => rfl
  | t + 1 => by
    rw [sched32, sched32, sched32_take bs t]
    by_cases h : t < 16
    · rw [if_pos h, if_pos h, rd32_take bs t h]
    · rw [if_neg h, if_neg h]
theorem low_chain (k : Int) (hk : k = 2 ∨ k = 3) (ws : List (BitVec 64)) (M : List (BitVec 8)) : ∀ n, lowL (chainV k ws M n) = ch32 (lowL ws) M n
  | 0 => rfl
  | n + 1 => by
    have hb : blN k = 64 := by rcases hk with rfl | rfl <;> rfl
    have hc : ∀ a b, compV k a b = comp32 a b := fun a b => by rcases hk with rfl | rfl <;> rfl
    rw [chainV, hc, low_comp32, low_chain k hk ws M n, ch32, hb, pieceL, sched32_take]
theorem low_byte (x : BitVec 64) (s : Nat) (hs : s ≤ 24) : ((x.setWidth 32) >>> s).setWidth 8 = (x >>> s).setWidth 8 := by
  apply BitVec.eq_of_getLsbD_eq
  intro i hi
  simp only [BitVec.getLsbD_setWidth, BitVec.getLsbD_ushiftRight]
  rw [show decide (s + i < 32) = true by simp; omega, Bool.true_and]
theorem low_byte0 (x : BitVec 64) : (x.setWidth 32).setWidth 8 = x.setWidth 8 := BitVec.setWidth_setWidth_of_le _ (by decide)
theorem out_low (k : Int) (hk : k = 2 ∨ k = 3) (ws : List (BitVec 64)) (h : ws.length = 8) : outL k ws = (wordsL (lowL ws)).take (szN k) := by
  obtain ⟨a, b, c, d, e, f, g, i, rfl⟩ := list8 h
  rcases hk with rfl | rfl
  · rw [outL, show szN 2 = 28 from rfl, show blN 2 / 16 = 4 from rfl, show List.range 28 = [0, 1, 2, 3, 4, 5, 6, 7, 8, 9, 10, 11, 12, 13, 14, 15, 16, 17, 18, 19, 20, 21, 22, 23, 24, 25, 26, 27] from rfl]
    simp [outB, lowL, wordsL, byte4, low_byte, low_byte0]
  · rw [outL, show szN 3 = 32 from rfl, show blN 3 / 16 = 4 from rfl, show List.range 32 = [0, 1, 2, 3, 4, 5, 6, 7, 8, 9, 10, 11, 12, 13, 14, 15, 16, 17, 18, 19, 20, 21, 22, 23, 24, 25, 26, 27, 28, 29, 30, 31] from rfl]
    simp [outB, lowL, wordsL, byte4, low_byte, low_byte0]
/-- what the reference's sha256 gives, by the program's words -/
theorem sum_low (k : Int) (hk : k = 2 ∨ k = 3) (msg : List (BitVec 8)) (N : Nat) (hN : msg.length + padN msg.length 64 = 64 * N) : sumL k msg = (wordsL (ch32 (lowL (startsL k)) (msg ++ padL msg.length 64) N)).take (szN k) := by
  have hb : blN k = 64 := by rcases hk with rfl | rfl <;> rfl
  have hl : (padM k msg).length / blN k = N := by rw [padM, List.length_append, padL_length, hb, hN]; omega
  rw [sumL, hl, out_low k hk _ (chainV_length k _ _ (startsL_length k) N), low_chain k hk, padM, hb]
end Go.Proofs.YtnpaidieijlkkaaDoor

/- the program's SHA-1 and the reference's: numbers alone. -/
set_option linter.unusedVariables false
set_option linter.unusedSimpArgs false
namespace Go.Proofs.YtnpaidieijlkkaaDoor
open Go.RowKit Go.Shelf
/-- the five words of a state -/
def H1.five (s : H1) : List (BitVec 32) := [s.a, s.b, s.c, s.d, s.e]
/-- the reference's words after so many blocks -/
def ch1 (hs : List (BitVec 32)) (ms : List (BitVec 8)) : Nat → List (BitVec 32)
  | 0 => hs
  | i + 1 => add3L (ch1 hs ms i) (st1 (sched1 (ms.drop (64 * i)) 80) (H1.ofL (ch1 hs ms i)) 80).five
theorem ch1_length (hs : List (BitVec 32)) (ms : List (BitVec 8)) (h : hs.length = 5) : ∀ i, (ch1 hs ms i).length = 5
  | 0 => h
  | i + 1 => by rw [ch1, add3L, List.length_map, List.length_zip, ch1_length hs ms h i]; rfl
theorem sched1_length (bs : List (BitVec 8)) : ∀ t, (sched1 bs t).length = t
  | 0 => rfl
  | t + 1 => by rw [sched1, List.length_append, sched1_length bs t]; rfl
theorem sched1_take (bs : List (BitVec 8)) : ∀ t, sched1 (bs.take 64) t = sched1 bs t
  | 0 => rfl
  | t + 1 => by
    rw [sched1, sched1, sched1_take bs t]
    by_cases h : t < 16
    · rw [if_pos h, if_pos h, rd32_take bs t h]
    · rw [if_neg h, if_neg h]
theorem five_eq (a : List (BitVec 32)) (s : H1) (h : a.length = 8) : (add3L a s.toL).take 5 = add3L (a.take 5) s.five := by
  obtain ⟨x0, x1, x2, x3, x4, x5, x6, x7, rfl⟩ := list8 h
  rfl
theorem ofL_five (a : List (BitVec 32)) (h : a.length = 8) : H1.ofL (a.take 5) = H1.ofL a := by
  obtain ⟨x0, x1, x2, x3, x4, x5, x6, x7, rfl⟩ := list8 h
  rfl
theorem lowL_length (ws : List (BitVec 64)) : (lowL ws).length = ws.length := by simp [lowL]
theorem low_chain1 (ws : List (BitVec 64)) (M : List (BitVec 8)) (hw : ws.length = 8) : ∀ n, (lowL (chainV 1 ws M n)).take 5 = ch1 ((lowL ws).take 5) M n
  | 0 => rfl
  | n + 1 => by
    have hl : (lowL (chainV 1 ws M n)).length = 8 := by rw [lowL_length]; exact chainV_length 1 _ _ hw n
    have hc : ∀ a b, compV 1 a b = comp1 a b := fun a b => rfl
    rw [chainV, hc, comp1, low_add, five_eq _ _ hl, ch1, ← low_chain1 ws M hw n, ofL_five _ hl, show blN 1 = 64 from rfl, pieceL, sched1_take]
theorem out_five (ws : List (BitVec 64)) (h : ws.length = 8) : outL 1 ws = wordsL ((lowL ws).take 5) := by
  obtain ⟨a, b, c, d, e, f, g, i, rfl⟩ := list8 h
  rw [outL, show szN 1 = 20 from rfl, show blN 1 / 16 = 4 from rfl, show List.range 20 = [0, 1, 2, 3, 4, 5, 6, 7, 8, 9, 10, 11, 12, 13, 14, 15, 16, 17, 18, 19] from rfl]
  simp [outB, lowL, wordsL, byte4, low_byte, low_byte0]
/-- the reference's first words of SHA-1 -/
def start1 : List (BitVec 32) := [0x67452301, 0xefcdab89, 0x98badcfe, 0x10325476, 0xc3d2e1f0]
/-- what the reference's sha1 gives, by the program's words -/
theorem sum_one (msg : List (BitVec 8)) (N : Nat) (hN : msg.length + padN msg.length 64 = 64 * N) : sumL 1 msg = wordsL (ch1 start1 (msg ++ padL msg.length 64) N) := by
  have hl : (padM 1 msg).length / blN 1 = N := by rw [padM, List.length_append, padL_length, show blN 1 = 64 from rfl, hN]; omega
  rw [sumL, hl, out_five _ (chainV_length 1 _ _ (startsL_length 1) N), low_chain1 _ _ (startsL_length 1), padM, show blN 1 = 64 from rfl]
  rfl
/-- the reference's way to bend -/
def bendR (t : Nat) (x y z : BitVec 32) : BitVec 32 :=
  match t / 20 with
  | 0 => (x &&& y) ||| (~~~x &&& z)
  | 1 => x ^^^ y ^^^ z
  | 2 => (x &&& y) ||| (x &&& z) ||| (y &&& z)
  | _ => x ^^^ y ^^^ z
def numR (t : Nat) : BitVec 32 :=
  match t / 20 with
  | 0 => 0x5a827999
  | 1 => 0x6ed9eba1
  | 2 => 0x8f1bbcdc
  | _ => 0xca62c1d6
theorem or_xor_choose (x y z : BitVec 32) : (x &&& y) ||| (~~~x &&& z) = (x &&& y) ^^^ (~~~x &&& z) := by
  apply BitVec.eq_of_getLsbD_eq
  intro i hi
  simp only [BitVec.getLsbD_or, BitVec.getLsbD_xor, BitVec.getLsbD_and, BitVec.getLsbD_not, hi, decide_true, Bool.true_and]
  cases x.getLsbD i <;> cases y.getLsbD i <;> cases z.getLsbD i <;> rfl
theorem or_xor_majority (x y z : BitVec 32) : (x &&& y) ||| (x &&& z) ||| (y &&& z) = (x &&& y) ^^^ (x &&& z) ^^^ (y &&& z) := by
  apply BitVec.eq_of_getLsbD_eq
  intro i hi
  simp only [BitVec.getLsbD_or, BitVec.getLsbD_xor, BitVec.getLsbD_and]
  cases x.getLsbD i <;> cases y.getLsbD i <;> cases z.getLsbD i <;> rfl
theorem bend_eq (t : Nat) (x y z : BitVec 32) : bendV t x y z = bendR t x y z + numR t := by
  unfold bendV bendR numR
  generalize t / 20 = q
  match q with
  | 0 => simp only [or_xor_choose]
  | 1 => rfl
  | 2 => simp only [or_xor_majority]
  | n + 3 => rfl
theorem bv_arc' (a b c e : BitVec 32) : a + (b + c) + e = a + b + e + c := by rw [show a + (b + c) = a + b + c from (BitVec.add_assoc a b c).symm]; exact bv_arc _ _ _
theorem round1_eq (t : Nat) (wt : BitVec 32) (s : H1) : round1 t wt s = ⟨rl32 5 s.a + bendR t s.b s.c s.d + s.e + numR t + wt, s.a, rl32 30 s.b, s.c, s.d⟩ := by
  rw [round1, bend_eq, bv_arc' (rl32 5 s.a) (bendR t s.b s.c s.d) (numR t) s.e]
end Go.Proofs.YtnpaidieijlkkaaDoor
