/- Parts of one proof, joined: Se, Sg. -/
import Derived.Test.YtnpaidieijlkkaaDoorPileJ5
import Derived.StillTail
import Derived.Test.YtnpaidieijlkkaaDoorPileJ4

/- baileyref3: sha256. -/
set_option linter.unusedVariables false
set_option linter.unusedSimpArgs false
namespace Go.Proofs.YtnpaidieijlkkaaDoor
open Go.RowKit Go.Shelf

theorem Tryd.elem32 : Elem Tryd.prog 103 102 (.int .u32 0) 4 := ⟨Tryd.underlying103, by kernel_rfl, rfl, rfl, by decide⟩
def add3L (xs ys : List (BitVec 32)) : List (BitVec 32) := (xs.zip ys).map (fun p => p.1 + p.2)
/-- the reference's words after so many blocks -/
def ch32 (hs : List (BitVec 32)) (ms : List (BitVec 8)) : Nat → List (BitVec 32)
  | 0 => hs
  | i + 1 => add3L (ch32 hs ms i) (st32 (sched32 (ms.drop (64 * i)) 64) (H32.ofL (ch32 hs ms i)) 64).toL
theorem ch32_length (hs : List (BitVec 32)) (ms : List (BitVec 8)) (h : hs.length = 8) : ∀ i, (ch32 hs ms i).length = 8
  | 0 => h
  | i + 1 => by rw [ch32, add3L, List.length_map, List.length_zip, ch32_length hs ms h i]; rfl
structure SchS (w : World) (Z g t : Nat) (ws : List (BitVec 32)) : Prop where
  row : RowV 102 w g ((ws ++ List.replicate (Z - t) 0).map W32)
  len : ws.length = t
theorem SchS.at_ {w : World} {Z g t : Nat} {ws : List (BitVec 32)} (h : SchS w Z g t ws) {i : Nat} (hi : i < t) : w.cell? ⟨g, i, none⟩ = some (W32 (ws.getD i 0)) :=
  h.row.at_ (by rw [List.getElem?_map, get_pre _ _ 0 _ (by rw [h.len]; exact hi)]; rfl)
theorem SchS.end_ {w : World} {Z g t : Nat} {ws : List (BitVec 32)} (h : SchS w Z g t ws) (ht : t < Z) : w.cell? ⟨g, t, none⟩ = some (.int .u32 0) :=
  h.row.at_ (by rw [List.getElem?_map, show Z - t = (Z - t - 1) + 1 by omega, get_end _ _ _ _ h.len]; rfl)
theorem SchS.put {w : World} {Z g t : Nat} {ws : List (BitVec 32)} (h : SchS w Z g t ws) (ht : t < Z) (y : BitVec 32) : SchS (w.setCell ⟨g, t, none⟩ (W32 y)) Z g (t + 1) (ws ++ [y]) :=
  ⟨by
    have h2 := h.row.set t (W32 y)
    rw [← List.map_set, show Z - t = (Z - (t + 1)) + 1 by omega, set_end _ _ _ _ _ h.len] at h2
    exact h2, by simp [h.len]⟩
theorem SlV.onlyN {w w' : World} {B n c b off g : Nat} {vs : List Value} (h : SlV w B (some ⟨b, off, none⟩) n c vs) (ho : OnlyV w w' g) (hn : b ≠ g) (hB : B ≤ w.heap.size) : SlV w' B (some ⟨b, off, none⟩) n c vs :=
  ⟨h.1, h.2.1, h.2.2.1, fun hne => by
    obtain ⟨b', off', e, hb, hc⟩ := h.2.2.2 hne
    injection e with e
    injection e with e1 e2 e3
    subst e1
    subst e2
    exact ⟨b, off, rfl, hb, fun k v hv => (ho.cell (p := ⟨b, off + k, none⟩) (Nat.lt_of_lt_of_le hb hB) hn).trans (hc k v hv)⟩⟩
theorem bv_arc (a b c : BitVec 32) : a + b + c = a + c + b := by rw [BitVec.add_assoc, BitVec.add_comm b c, ← BitVec.add_assoc]
theorem own_form0 {w : World} {base : Nat} {e : TypeId} {v : Value} {n : Nat} {xs : List Value} (h : w.ownsRow base e 1 v n xs) (hn : 0 < n) : ∃ g c, v = .slice (some ⟨g, 0, none⟩) n c ∧ base ≤ g ∧ SlV w w.heap.size (some ⟨g, 0, none⟩) n c xs := by
  obtain ⟨A, c, rfl, h1, h2, h3⟩ := SlV.of_own h
  rcases h.2 with ⟨e, h4⟩ | ⟨g, cap, cur, e, h4, _⟩
  · omega
  · injection e with e1 e2 e3
    subst e1
    exact ⟨g, c, rfl, h4, h1⟩
theorem own_base {w : World} {base b0 : Nat} {e : TypeId} {v : Value} {n : Nat} {xs : List Value} (h : w.ownsRow base e 1 v n xs) (hb : b0 ≤ base) : w.ownsRow b0 e 1 v n xs :=
  ⟨h.1, h.2.imp id (fun ⟨g, cap, cur, h1, h2, h3⟩ => ⟨g, cap, cur, h1, Nat.le_trans hb h2, h3⟩)⟩
theorem padN_64 (n : Nat) : ∃ N, n + padN n 64 = 64 * N ∧ 1 ≤ N ∧ padN n 64 ≤ 72 := by
  unfold padN
  exact ⟨(n + 72 - (n + 8) % 64) / 64, by omega, by omega, by omega⟩
set_option maxRecDepth 100000 in
set_option maxHeartbeats 20000000 in
theorem rsha256_any (w : World) (B : Nat) (A : Option Addr) (n c : Nat) (bs : List (BitVec 8)) (hs : SlV w B A n c (bs.map W8)) (hz : A = none → c = 0) (hB : B ≤ w.heap.size) (hn : n ≤ 1000000000) (gh : Nat) (xs : List (BitVec 32)) (hxl : xs.length = 8) (hh : RowV 102 w gh (xs.map W32)) :
    Calls Tryd.prog 83 #[.slice A n c, .slice (some ⟨gh, 0, none⟩) 8 8] w fun e w' => ∃ v, e = .returned v ∧ w'.ownsRow w.heap.size 5 1 v 32 ((wordsL (ch32 xs (bs ++ padL n 64) ((n + padN n 64) / 64))).map W8) ∧ OnlyV w w' gh := by
  have hghl := hh.lt
  obtain ⟨N, hN, hN1, hpl⟩ := padN_64 n
  have hp := fun w1 (b1 : Below w.heap.size w w1) => rpad_any w1 B A n c bs (hs.below (b1.mono hB)) hz (Nat.le_trans hB b1.size) hn 64 (.inl rfl)
  rw [hN]
  rw [show 64 * N / 64 = N by omega]
  rw [show ((64 : Nat) : Int) = 64 from rfl, show ((64 / 8 : Nat) : Int) = 8 from rfl] at hp
  simp only [hN] at hp
  obtain ⟨ms, hms⟩ : ∃ ms, bs ++ padL n 64 = ms := ⟨_, rfl⟩
  rw [hms] at hp ⊢
  have hNb : N ≤ 15625002 := by omega
  have hmx : Tryd.prog.follows .mixedOrders = true := by kernel_rfl
  have hk := k256_any w
  obtain ⟨g0, hg0⟩ : ∃ g, w.heap.size = g := ⟨_, rfl⟩
  rw [hg0] at hghl hk hp ⊢
  have HG0 := Lib.hid hg0
  have HK := Lib.hid hk
  have HP := Lib.hid hp
  have HH := Lib.hid hh
  clear hN hpl hms hs hk hp hg0 hh hB
  go_enter Tryd.func83, Tryd.ntmps83
  go_wp2_with fail
  refine HK.out.mono ?_
  rintro e w1 ⟨rfl, rk, b1⟩
  have HRK := Lib.hid rk
  have HB1 := Lib.hid b1
  clear rk b1
  go_wp2_with fail
  refine (HP.out w1 HB1.out).mono ?_
  rintro e w2 ⟨v, rfl, ho, b2⟩
  obtain ⟨A2, c2, rfl, sm, hbm, hA2⟩ := SlV.of_own ho
  obtain ⟨gm, off, s0, rfl⟩ : ∃ gm off s, A2 = some ⟨gm, off, s⟩ := by
    cases A2 with
    | none => have := hA2 rfl; omega
    | some a => exact ⟨a.block, a.off, a.spot, rfl⟩
  obtain rfl : s0 = none := by
    obtain ⟨b', o', e, _⟩ := sm.2.2.2 (by intro e; have := sm.len; rw [e] at this; simp at this; omega)
    injection e with e
    injection e
  have hgm : w1.heap.size ≤ gm := hbm _ _ _ rfl
  have h01 := HB1.out.size
  rw [HG0.out] at h01
  have hg01 : g0 < w1.heap.size := HRK.out.lt
  have hrk2 := HRK.out.later b2
  have hrh2 := (HH.out.later (HG0.out ▸ HB1.out)).later b2
  have ho2 : OnlyV w w2 gh := (OnlyV.of_below (a := w) (w := w1) (by rw [HG0.out]; exact HB1.out) gh).trans (OnlyV.of_below b2 gh)
  have hgm2 : gm < w2.heap.size := by
    obtain ⟨b', o', e, hb', _⟩ := sm.2.2.2 (by intro e; have := sm.len; rw [e] at this; simp at this; omega)
    injection e with e
    injection e with e1
    omega
  have hmcap := sm.cap
  have hmmax := sm.max
  have hml : ms.length = 64 * N := by have := sm.len; simpa using this.symm
  have HSM := Lib.hid sm
  have HRK2 := Lib.hid hrk2
  have HRH2 := Lib.hid hrh2
  have HO2 := Lib.hid ho2
  have HCAP := Lib.hid hmcap
  have HMAX := Lib.hid hmmax
  have HML := Lib.hid hml
  have HC32 := Lib.hid (ch32_length xs ms hxl)
  clear ho b2 hA2 hbm hrk2 hrh2 ho2 sm hmcap hmmax hml
  go_wp2
  go_loopw [6] (fun m wr => ∃ i off c' : Nat, i ≤ N ∧ m = .slice (some ⟨gm, off, none⟩) (64 * (N - i)) c' ∧ Hid (SlV wr w2.heap.size (some ⟨gm, off, none⟩) (64 * (N - i)) c' ((ms.drop (64 * i)).map W8)) ∧ Hid (RowV 102 wr gh ((ch32 xs ms i).map W32)) ∧ Hid (RowV 102 wr g0 (k32L.map W32)) ∧ Hid (OnlyV w2 wr gh)) (fun m _ => match m with | .slice _ n _ => n | _ => 0)
  case atStart => exact ⟨0, off, c2, Nat.zero_le _, rfl, Lib.hid HSM.out, Lib.hid HRH2.out, Lib.hid HRK2.out, Lib.hid (OnlyV.refl _ _)⟩
  case round =>
    obtain ⟨wo, rfl⟩ : ∃ V, V = wr := ⟨_, rfl⟩
    obtain ⟨i, off, c', hi, rfl, HS, HR, HKR, HOV⟩ := hrel
    by_cases hiN : i < N
    · obtain ⟨Z, hZ⟩ : ∃ Z, 64 * (N - i) = Z := ⟨_, rfl⟩
      have hZ1 : 64 ≤ Z := by omega
      obtain ⟨bi, hbi⟩ : ∃ bi, ms.drop (64 * i) = bi := ⟨_, rfl⟩
      rw [hZ, hbi] at HS
      rw [hZ]
      have hbl : bi.length = Z := by rw [← hbi, List.length_drop, HML.out]; omega
      have hcp : Z ≤ c' := HS.out.cap
      have hcm : c' ≤ 9223372036854775807 := HS.out.max
      have kZ : (0 : Int) < Z := by omega
      have kZ2 : (64 : Int) ≤ Z := by omega
      have kZ3 : (Z : Int) ≤ 1000000128 := by omega
      have kc1 : (Z : Int) ≤ c' := by omega
      have kc2 : (c' : Int) ≤ 9223372036854775807 := by omega
      obtain ⟨gw, hgw⟩ : ∃ g, wo.heap.size = g := ⟨_, rfl⟩
      have HGS : w2.heap.size ≤ gw := by have := HOV.out.size; omega
      have HGW := Lib.hid hgw
      have HZ := Lib.hid hZ
      have HBI := Lib.hid hbi
      have HBL := Lib.hid hbl
      clear hZ hbi hbl hcp hcm hgw
      go_wp2_with (at_make; refine wlv_make Tryd.elem32 rfl _ rfl _ 64 rfl rfl (by decide) ?_; intro w3 r3 b3 z3; rw [HGW.out] at r3 b3 z3; have HR3 := Lib.hid r3; have HB3 := Lib.hid b3; have HZ3 := Lib.hid z3; clear r3 b3 z3; rw [HGW.out])
      go_loopw [8] (fun tv W => ∃ t : Nat, t ≤ 64 ∧ tv = .int .i64 (t : Int) ∧ Hid (SchS W 64 gw t (sched32 bi t)) ∧ Hid (Below gw w3 W)) (fun tv _ => 64 - (intOf tv).toNat)
      case atStart => exact ⟨0, Nat.zero_le _, rfl, Lib.hid ⟨HR3.out, rfl⟩, Lib.hid (Below.refl _ _)⟩
      case round =>
        obtain ⟨t, ht, rfl, HSC, HBW⟩ := hrel
        by_cases ht64 : t < 64
        · have kt : (t : Int) < 64 := by omega
          have kt0 : (0 : Int) ≤ t := by omega
          have kt1 : (t : Int) ≤ 63 := by omega
          have ce := HSC.out.end_ ht64
          have hfz := HSC.out.row.frozen t
          by_cases ht16 : t < 16
          · have kt16 : (t : Int) < 16 := by omega
            obtain ⟨q, hq⟩ : ∃ q, 4 * t = q := ⟨_, rfl⟩
            have hqI : (4 : Int) * t = q := by omega
            have kq0 : (0 : Int) ≤ q := by omega
            have kq1 : (q : Int) ≤ 60 := by omega
            have kq2 : (q : Int) ≤ c' := by omega
            have kq3 : (q : Int) ≤ Z := by omega
            have kq4 : ¬ (c' : Int) = q := by omega
            have kq5 : ¬ c' = q := by omega
            have HQ := Lib.hid hq
            clear hq
            have hs' := (HS.out.below ((HB3.out.trans HBW.out).mono HGS)).drop (k := q) (by omega)
            rw [← List.map_drop] at hs'
            have hwd := word_any wr w2.heap.size gm (off + q) (Z - q) (c' - q) (bi.drop q) hs' (by omega)
            obtain ⟨y, hy⟩ : ∃ y, rd32 bi t = y := ⟨_, rfl⟩
            rw [show fold32 ((bi.drop q).take 4) = y by rw [← hy, rd32, HQ.out]] at hwd
            have HWD := Lib.hid hwd
            have HY := Lib.hid hy
            clear hs' hwd hy
            go_wp2_with fail
            refine HWD.out.mono ?_
            rintro e w5 ⟨rfl, q0, rfl⟩
            have hval : sched32 bi (t + 1) = sched32 bi t ++ [y] := by rw [sched32, if_pos ht16, HY.out]
            have hnx := HSC.out.put ht64 y
            rw [← hval] at hnx
            have HNX := Lib.hid hnx
            have HBX := Lib.hid (below_setV HBW.out (Nat.le_refl gw) t (W32 y))
            clear hnx hval
            go_wp2
            go_round
            case rel => exact ⟨t + 1, by omega, by go_num, Lib.hid ⟨HNX.out.row, HNX.out.len⟩, Lib.hid (below_drewN HBX.out _)⟩
            case measure => simp [intOf]; omega
          · have hti : (t : Int) < 64 := kt
            have kt16 : ¬ (t : Int) < 16 := by omega
            obtain ⟨p15, h15⟩ : ∃ p, t - 15 = p := ⟨_, rfl⟩
            obtain ⟨p2, h2⟩ : ∃ p, t - 2 = p := ⟨_, rfl⟩
            obtain ⟨p16, h16⟩ : ∃ p, t - 16 = p := ⟨_, rfl⟩
            obtain ⟨p7, h7⟩ : ∃ p, t - 7 = p := ⟨_, rfl⟩
            have c15 := HSC.out.at_ (i := p15) (by omega)
            have c2 := HSC.out.at_ (i := p2) (by omega)
            have c16 := HSC.out.at_ (i := p16) (by omega)
            have c7 := HSC.out.at_ (i := p7) (by omega)
            obtain ⟨x, hx⟩ : ∃ x, (sched32 bi t).getD p15 0 = x := ⟨_, rfl⟩
            rw [hx] at c15
            obtain ⟨y, hy⟩ : ∃ x, (sched32 bi t).getD p2 0 = x := ⟨_, rfl⟩
            rw [hy] at c2
            obtain ⟨u, hu⟩ : ∃ x, (sched32 bi t).getD p16 0 = x := ⟨_, rfl⟩
            rw [hu] at c16
            obtain ⟨v, hv⟩ : ∃ x, (sched32 bi t).getD p7 0 = x := ⟨_, rfl⟩
            rw [hv] at c7
            have i15 : (t : Int) - 15 = (p15 : Int) := by omega
            have l15 : (p15 : Int) < 64 := by omega
            have H15 := Lib.hid h15
            have HX := Lib.hid hx
            have i2 : (t : Int) - 2 = (p2 : Int) := by omega
            have l2 : (p2 : Int) < 64 := by omega
            have H2 := Lib.hid h2
            have HY := Lib.hid hy
            have i16 : (t : Int) - 16 = (p16 : Int) := by omega
            have l16 : (p16 : Int) < 64 := by omega
            have H16 := Lib.hid h16
            have HU := Lib.hid hu
            have i7 : (t : Int) - 7 = (p7 : Int) := by omega
            have l7 : (p7 : Int) < 64 := by omega
            have H7 := Lib.hid h7
            have HV := Lib.hid hv
            clear h15 hx h2 hy h16 hu h7 hv
            go_wp2_with fail
            have w16 : IntKind.i64.wrap (p16 : Int) = (p16 : Int) := by rw [IntKind.wrap_i64]; omega
            have w7 : IntKind.i64.wrap (p7 : Int) = (p7 : Int) := by rw [IntKind.wrap_i64]; omega
            refine (wpIn_wide (n := 9)).1 (wpIn_region_pure rfl hmx [(51, .slice (some ⟨gw, 0, none⟩) 64 64), (52, .int .i64 (t : Int)), (53, .slice (some ⟨gw, 0, none⟩) 64 64), (54, .int .i64 (t : Int)), (55, .int .i64 (p16 : Int)), (56, .pointer (some ⟨gw, p16, none⟩)), (57, W32 u), (58, W32 x), (59, W32 (rl32 25 x)), (60, W32 x), (61, W32 (rl32 14 x)), (62, W32 ((rl32 25 x) ^^^ (rl32 14 x))), (63, W32 x), (64, W32 (x >>> 3)), (65, W32 (((rl32 25 x) ^^^ (rl32 14 x)) ^^^ (x >>> 3))), (66, W32 (u + (((rl32 25 x) ^^^ (rl32 14 x)) ^^^ (x >>> 3)))), (67, .slice (some ⟨gw, 0, none⟩) 64 64), (68, .int .i64 (t : Int)), (69, .int .i64 (p7 : Int)), (70, .pointer (some ⟨gw, p7, none⟩)), (71, W32 v), (72, W32 ((u + (((rl32 25 x) ^^^ (rl32 14 x)) ^^^ (x >>> 3))) + v)), (73, W32 y), (74, W32 (rl32 15 y)), (75, W32 y), (76, W32 (rl32 13 y)), (77, W32 ((rl32 15 y) ^^^ (rl32 13 y))), (78, W32 y), (79, W32 (y >>> 10)), (80, W32 (((rl32 15 y) ^^^ (rl32 13 y)) ^^^ (y >>> 10))), (81, W32 (((u + (((rl32 25 x) ^^^ (rl32 14 x)) ^^^ (x >>> 3))) + v) + (((rl32 15 y) ^^^ (rl32 13 y)) ^^^ (y >>> 10)))), (82, .pointer (some ⟨gw, t, none⟩))] (by kernel_rfl) (by kernel_rfl) (by kernel_rfl) (by kernel_rfl) (by first | rfl | simp) 32 (wr.setCell ⟨gw, t, none⟩ (W32 (((u + (((rl32 25 x) ^^^ (rl32 14 x)) ^^^ (x >>> 3))) + v) + (((rl32 15 y) ^^^ (rl32 13 y)) ^^^ (y >>> 10))))) rfl (by kernel_rfl) ?ops13 ?last13 ?end13)
            case ops13 =>
              intro i o hi ho
              have hi2 : i = 0 ∨ i = 1 ∨ i = 2 ∨ i = 3 ∨ i = 4 ∨ i = 5 ∨ i = 6 ∨ i = 7 ∨ i = 8 ∨ i = 9 ∨ i = 10 ∨ i = 11 ∨ i = 12 ∨ i = 13 ∨ i = 14 ∨ i = 15 ∨ i = 16 ∨ i = 17 ∨ i = 18 ∨ i = 19 ∨ i = 20 ∨ i = 21 ∨ i = 22 ∨ i = 23 ∨ i = 24 ∨ i = 25 ∨ i = 26 ∨ i = 27 ∨ i = 28 ∨ i = 29 ∨ i = 30 ∨ i = 31 := by omega
              rcases hi2 with rfl | rfl | rfl | rfl | rfl | rfl | rfl | rfl | rfl | rfl | rfl | rfl | rfl | rfl | rfl | rfl | rfl | rfl | rfl | rfl | rfl | rfl | rfl | rfl | rfl | rfl | rfl | rfl | rfl | rfl | rfl | rfl
              all_goals
                have ho' := ho
                simp only [List.getElem?_toArray, List.getElem?_cons_zero, List.getElem?_cons_succ, Option.some.injEq] at ho'
                subst ho'
                refine ⟨(by intro c h; cases h), fun q => ⟨fun _ _ => trivial, ?_⟩⟩
              · exact .inl (by simp [execOp, evP, valP, Act.eval, List.lookup_cons])
              · exact .inl (by simp [execOp, evP, valP, Act.eval, List.lookup_cons])
              · exact .inl (by simp [execOp, evP, valP, Act.eval, List.lookup_cons])
              · exact .inl (by simp [execOp, evP, valP, Act.eval, List.lookup_cons])
              · exact .inl (by simp [execOp, evP, valP, Act.eval, List.lookup_cons, go_sem, i16, i7, l16, l7, w16, w7, hti, c16, c7, b32_xor, b32_add, b32_d3, b32_d10])
              · exact .inl (by simp [execOp, evP, valP, Act.eval, List.lookup_cons, go_sem, i16, i7, l16, l7, w16, w7, hti, c16, c7, b32_xor, b32_add, b32_d3, b32_d10])
              · exact .inl (by simp [execOp, evP, valP, Act.eval, List.lookup_cons, go_sem, i16, i7, l16, l7, w16, w7, hti, c16, c7, b32_xor, b32_add, b32_d3, b32_d10])
              · exact .inl (by simp [execOp, evP, valP, Act.eval, List.lookup_cons])
              · refine .inr ⟨114, #[W32 x, .int .u64 7], ?_, (callsIn_wide.2 (right_any _ (x) 7 (by decide) (by decide))).mono ?_⟩
                · simp [execOp, evP, valP, Act.eval, List.lookup_cons, go_sem]
                · rintro e w' ⟨rfl, rfl⟩
                  exact ⟨rfl, 0, rfl⟩
              · exact .inl (by simp [execOp, evP, valP, Act.eval, List.lookup_cons])
              · refine .inr ⟨114, #[W32 x, .int .u64 18], ?_, (callsIn_wide.2 (right_any _ (x) 18 (by decide) (by decide))).mono ?_⟩
                · simp [execOp, evP, valP, Act.eval, List.lookup_cons, go_sem]
                · rintro e w' ⟨rfl, rfl⟩
                  exact ⟨rfl, 0, rfl⟩
              · exact .inl (by simp [execOp, evP, valP, Act.eval, List.lookup_cons, go_sem, i16, i7, l16, l7, w16, w7, hti, c16, c7, b32_xor, b32_add, b32_d3, b32_d10])
              · exact .inl (by simp [execOp, evP, valP, Act.eval, List.lookup_cons])
              · exact .inl (by simp [execOp, evP, valP, Act.eval, List.lookup_cons, go_sem, i16, i7, l16, l7, w16, w7, hti, c16, c7, b32_xor, b32_add, b32_d3, b32_d10] <;> first | exact b32_shr _ _ | exact b32_d3 _ | exact b32_d10 _ | exact b64_d7 _ | exact b64_d6 _ | exact b64_d32 _)
              · exact .inl (by simp [execOp, evP, valP, Act.eval, List.lookup_cons, go_sem, i16, i7, l16, l7, w16, w7, hti, c16, c7, b32_xor, b32_add, b32_d3, b32_d10])
              · exact .inl (by simp [execOp, evP, valP, Act.eval, List.lookup_cons, go_sem, i16, i7, l16, l7, w16, w7, hti, c16, c7, b32_xor, b32_add, b32_d3, b32_d10])
              · exact .inl (by simp [execOp, evP, valP, Act.eval, List.lookup_cons])
              · exact .inl (by simp [execOp, evP, valP, Act.eval, List.lookup_cons])
              · exact .inl (by simp [execOp, evP, valP, Act.eval, List.lookup_cons, go_sem, i16, i7, l16, l7, w16, w7, hti, c16, c7, b32_xor, b32_add, b32_d3, b32_d10])
              · exact .inl (by simp [execOp, evP, valP, Act.eval, List.lookup_cons, go_sem, i16, i7, l16, l7, w16, w7, hti, c16, c7, b32_xor, b32_add, b32_d3, b32_d10])
              · exact .inl (by simp [execOp, evP, valP, Act.eval, List.lookup_cons, go_sem, i16, i7, l16, l7, w16, w7, hti, c16, c7, b32_xor, b32_add, b32_d3, b32_d10])
              · exact .inl (by simp [execOp, evP, valP, Act.eval, List.lookup_cons, go_sem, i16, i7, l16, l7, w16, w7, hti, c16, c7, b32_xor, b32_add, b32_d3, b32_d10])
              · exact .inl (by simp [execOp, evP, valP, Act.eval, List.lookup_cons])
              · refine .inr ⟨114, #[W32 y, .int .u64 17], ?_, (callsIn_wide.2 (right_any _ (y) 17 (by decide) (by decide))).mono ?_⟩
                · simp [execOp, evP, valP, Act.eval, List.lookup_cons, go_sem]
                · rintro e w' ⟨rfl, rfl⟩
                  exact ⟨rfl, 0, rfl⟩
              · exact .inl (by simp [execOp, evP, valP, Act.eval, List.lookup_cons])
              · refine .inr ⟨114, #[W32 y, .int .u64 19], ?_, (callsIn_wide.2 (right_any _ (y) 19 (by decide) (by decide))).mono ?_⟩
                · simp [execOp, evP, valP, Act.eval, List.lookup_cons, go_sem]
                · rintro e w' ⟨rfl, rfl⟩
                  exact ⟨rfl, 0, rfl⟩
              · exact .inl (by simp [execOp, evP, valP, Act.eval, List.lookup_cons, go_sem, i16, i7, l16, l7, w16, w7, hti, c16, c7, b32_xor, b32_add, b32_d3, b32_d10])
              · exact .inl (by simp [execOp, evP, valP, Act.eval, List.lookup_cons])
              · exact .inl (by simp [execOp, evP, valP, Act.eval, List.lookup_cons, go_sem, i16, i7, l16, l7, w16, w7, hti, c16, c7, b32_xor, b32_add, b32_d3, b32_d10] <;> first | exact b32_shr _ _ | exact b32_d3 _ | exact b32_d10 _ | exact b64_d7 _ | exact b64_d6 _ | exact b64_d32 _)
              · exact .inl (by simp [execOp, evP, valP, Act.eval, List.lookup_cons, go_sem, i16, i7, l16, l7, w16, w7, hti, c16, c7, b32_xor, b32_add, b32_d3, b32_d10])
              · exact .inl (by simp [execOp, evP, valP, Act.eval, List.lookup_cons, go_sem, i16, i7, l16, l7, w16, w7, hti, c16, c7, b32_xor, b32_add, b32_d3, b32_d10])
              · exact .inl (by simp [execOp, evP, valP, Act.eval, List.lookup_cons, go_sem, i16, i7, l16, l7, w16, w7, hti, c16, c7, b32_xor, b32_add, b32_d3, b32_d10])
            case last13 =>
              intro o ho
              have ho' := ho
              simp only [List.getElem?_toArray, List.getElem?_cons_zero, List.getElem?_cons_succ, Option.some.injEq] at ho'
              subst ho'
              refine ⟨(by intro c h; cases h), fun q => ⟨fun _ _ => trivial, .inl ⟨?_, rfl⟩⟩⟩
              simp [execOp, evP, valP, Act.eval, List.lookup_cons, go_sem, ce, hfz, hti]
              try rfl
            case end13 =>
              intro q
              simp [wrote, valP, Act.put, List.lookup_cons]
              have hnx := HSC.out.put ht64 ((((u + (((rl32 25 x) ^^^ (rl32 14 x)) ^^^ (x >>> 3))) + v) + (((rl32 15 y) ^^^ (rl32 13 y)) ^^^ (y >>> 10))))
              have hval : sched32 bi (t + 1) = sched32 bi t ++ [(((u + (((rl32 25 x) ^^^ (rl32 14 x)) ^^^ (x >>> 3))) + v) + (((rl32 15 y) ^^^ (rl32 13 y)) ^^^ (y >>> 10)))] := by
                rw [sched32, if_neg ht16, next32, H15.out, H2.out, H16.out, H7.out, HX.out, HY.out, HU.out, HV.out, bv_arc u v]
              rw [← hval] at hnx
              have HNX := Lib.hid hnx
              have HBX := Lib.hid (below_setV HBW.out (Nat.le_refl gw) t (W32 (((u + (((rl32 25 x) ^^^ (rl32 14 x)) ^^^ (x >>> 3))) + v) + (((rl32 15 y) ^^^ (rl32 13 y)) ^^^ (y >>> 10)))))
              clear hnx hval
              go_wp2
              go_round
              case rel => exact ⟨t + 1, by omega, by go_num, Lib.hid ⟨HNX.out.row, HNX.out.len⟩, Lib.hid (below_drewN HBX.out _)⟩
              case measure => simp [intOf]; omega
        · obtain rfl : t = 64 := by omega
          obtain ⟨wp, rfl⟩ : ∃ V, V = wr := ⟨_, rfl⟩
          have hw64 : RowV 102 wp gw ((sched32 bi 64).map W32) := by have := HSC.out.row; simpa using this
          obtain ⟨ws, hws⟩ : ∃ ws, sched32 bi 64 = ws := ⟨_, rfl⟩
          have hwl : ws.length = 64 := by rw [← hws]; exact sched32_length _ _
          rw [hws] at hw64
          have hBall : Below gw wo wp := HB3.out.trans HBW.out
          have hrh := HR.out.below hBall (by omega)
          have hrk := HKR.out.below hBall (by omega)
          obtain ⟨s0, s1, s2, s3, s4, s5, s6, s7, hhc⟩ := list8 (HC32.out i)
          rw [hhc] at hrh
          have hgws : gw < wp.heap.size := hw64.lt
          obtain ⟨gv, hgv⟩ : ∃ g, wp.heap.size = g := ⟨_, rfl⟩
          rw [hgv] at hgws
          have HSH := Lib.hid (hrh.sl (by simp))
          have HW64 := Lib.hid hw64
          have HWL := Lib.hid hwl
          have HWS := Lib.hid hws
          have HBALL := Lib.hid hBall
          have HRH := Lib.hid hrh
          have HRK := Lib.hid hrk
          have HHC := Lib.hid hhc
          have HGV := Lib.hid hgv
          have hones : Ones ([s0, s1, s2, s3, s4, s5, s6, s7].map W32) := ones32 _
          clear hw64 hws hwl hBall hrh hrk hhc hgv
          go_wp2_with (at_builtin; refine wlv_append Tryd.elem32 rfl _ _ rfl wp.heap.size _ 0 [] rfl (World.ownsRow_nil _ _ _ _) (some ⟨gh, 0, none⟩) 8 8 _ rfl (by intro h; cases h) _ HSH.out hones (by decide) (Nat.le_refl _) ?_; intro v5 w5 hown5 hgr5; rw [Nat.zero_add, List.nil_append] at hown5; obtain ⟨b5, c5, rfl, hbb5, hsl5⟩ := own_form0 hown5 (by decide); have HO5 := Lib.hid hsl5; have HBB5 := Lib.hid hbb5; have HB5 := Lib.hid ((Below.refl _ _).grown hgr5 (Nat.le_refl _) (fun k h => by cases h)); clear hown5 hgr5 hsl5 hbb5)
          have hgb5 : gv ≤ b5 := by have := HBB5.out; rw [HGV.out] at this; exact this
          have hB5 : Below gv wp w5 := by have := HB5.out; rw [HGV.out] at this; exact this
          obtain ⟨S, hS⟩ : ∃ S : Nat → H32, st32 ws ⟨s0, s1, s2, s3, s4, s5, s6, s7⟩ = S := ⟨_, rfl⟩
          have HS0 := Lib.hid (show S 0 = ⟨s0, s1, s2, s3, s4, s5, s6, s7⟩ by rw [← hS]; rfl)
          have HS1 := Lib.hid (show ∀ t, S (t + 1) = round32 (K32 t) (ws.getD t 0) (S t) from fun t => by rw [← hS]; rfl)
          have HSS := Lib.hid hS
          have HB5 := Lib.hid hB5
          have HRK5 := Lib.hid (HRK.out.below hB5 (by omega))
          have HRW5 := Lib.hid (HW64.out.below hB5 (by omega))
          clear hS hB5
          go_loopw [11, 12] (fun vv tv W => ∃ t b c : Nat, t ≤ 64 ∧ vv = .slice (some ⟨b, 0, none⟩) 8 c ∧ tv = .int .i64 (t : Int) ∧ gv ≤ b ∧ Hid (SlV W W.heap.size (some ⟨b, 0, none⟩) 8 c ((S t).toL.map W32)) ∧ Hid (Below gv w5 W)) (fun _ tv _ => 64 - (intOf tv).toNat)
          case atStart => exact ⟨0, b5, c5, Nat.zero_le _, rfl, rfl, hgb5, Lib.hid (by rw [HS0.out]; exact HO5.out), Lib.hid (Below.refl _ _)⟩
          case round =>
            obtain ⟨t, b, c, ht, rfl, rfl, hgb, HV, HBV⟩ := hrel
            by_cases ht64 : t < 64
            · have hti : (t : Int) < 64 := by omega
              have hti0 : (0 : Int) ≤ t := by omega
              have cl := HV.out.2.2.2 (by simp [H32.toL])
              have hc8n : 8 ≤ c := HV.out.cap
              have hc8 : (8 : Int) ≤ c := by omega
              have hc0 : (c : Int) ≤ 9223372036854775807 := by have := HV.out.max; omega
              obtain ⟨⟨va, vb, vc, vd, ve, vf, vg, vh⟩, hst⟩ : ∃ x, S t = x := ⟨_, rfl⟩
              rw [hst] at cl
              obtain ⟨b', o', e, hbW, cl⟩ := cl
              injection e with e
              injection e with e1 e2
              subst e1
              subst e2
              have d0 := cl 0 (W32 va) rfl
              have d1 := cl 1 (W32 vb) rfl
              have d2 := cl 2 (W32 vc) rfl
              have d3 := cl 3 (W32 vd) rfl
              have d4 := cl 4 (W32 ve) rfl
              have d5 := cl 5 (W32 vf) rfl
              have d6 := cl 6 (W32 vg) rfl
              have d7 := cl 7 (W32 vh) rfl
              simp only [Nat.zero_add] at d0 d1 d2 d3 d4 d5 d6 d7
              have ckt := (HRK5.out.below HBV.out (by omega)).at_ (i := t) (v := W32 (K32 t)) (by rw [k32L]; simp [ht64])
              have cwt := (HRW5.out.below HBV.out (by omega)).at_ (i := t) (v := W32 (ws.getD t 0)) (by rw [List.getElem?_map, List.getD_eq_getElem?_getD, List.getElem?_eq_getElem (by rw [HWL.out]; exact ht64)]; rfl)
              obtain ⟨kt, hkt⟩ : ∃ x, K32 t = x := ⟨_, rfl⟩
              obtain ⟨wt, hwt⟩ : ∃ x, ws.getD t 0 = x := ⟨_, rfl⟩
              rw [hkt] at ckt
              rw [hwt] at cwt
              have HST := Lib.hid hst
              have HKT := Lib.hid hkt
              have HWT := Lib.hid hwt
              clear hst hkt hwt cl
              go_wp2_with fail
              refine (wpIn_wide (n := 9)).1 (wpIn_region_pure0 rfl hmx [(95, .slice (some ⟨b, 0, none⟩) 8 c), (96, .pointer (some ⟨b, 7, none⟩)), (97, W32 vh), (98, W32 ve), (99, W32 (rl32 26 ve)), (100, W32 ve), (101, W32 (rl32 21 ve)), (102, W32 ((rl32 26 ve) ^^^ (rl32 21 ve))), (103, W32 ve), (104, W32 (rl32 7 ve)), (105, W32 (((rl32 26 ve) ^^^ (rl32 21 ve)) ^^^ (rl32 7 ve))), (106, W32 (vh + (((rl32 26 ve) ^^^ (rl32 21 ve)) ^^^ (rl32 7 ve)))), (107, W32 ve), (108, .slice (some ⟨b, 0, none⟩) 8 c), (109, .pointer (some ⟨b, 5, none⟩)), (110, W32 vf), (111, W32 (ve &&& vf)), (112, W32 ve), (113, W32 (~~~ve)), (114, .slice (some ⟨b, 0, none⟩) 8 c), (115, .pointer (some ⟨b, 6, none⟩)), (116, W32 vg), (117, W32 ((~~~ve) &&& vg)), (118, W32 ((ve &&& vf) ^^^ ((~~~ve) &&& vg))), (119, W32 ((vh + (((rl32 26 ve) ^^^ (rl32 21 ve)) ^^^ (rl32 7 ve))) + ((ve &&& vf) ^^^ ((~~~ve) &&& vg)))), (120, .slice (some ⟨g0, 0, none⟩) 64 64), (121, .int .i64 (t : Int)), (122, .pointer (some ⟨g0, t, none⟩)), (123, W32 kt), (124, W32 (((vh + (((rl32 26 ve) ^^^ (rl32 21 ve)) ^^^ (rl32 7 ve))) + ((ve &&& vf) ^^^ ((~~~ve) &&& vg))) + kt)), (125, .slice (some ⟨gw, 0, none⟩) 64 64), (126, .int .i64 (t : Int)), (127, .pointer (some ⟨gw, t, none⟩)), (128, W32 wt), (129, W32 ((((vh + (((rl32 26 ve) ^^^ (rl32 21 ve)) ^^^ (rl32 7 ve))) + ((ve &&& vf) ^^^ ((~~~ve) &&& vg))) + kt) + wt)), (15, W32 ((((vh + (((rl32 26 ve) ^^^ (rl32 21 ve)) ^^^ (rl32 7 ve))) + ((ve &&& vf) ^^^ ((~~~ve) &&& vg))) + kt) + wt))] (by kernel_rfl) (by kernel_rfl) (by kernel_rfl) (by kernel_rfl) (by first | rfl | simp) ?ops20 ?end20)
              case ops20 =>
                intro i o hi ho
                have hi3 : i < 36 := hi
                have hi2 : i = 0 ∨ i = 1 ∨ i = 2 ∨ i = 3 ∨ i = 4 ∨ i = 5 ∨ i = 6 ∨ i = 7 ∨ i = 8 ∨ i = 9 ∨ i = 10 ∨ i = 11 ∨ i = 12 ∨ i = 13 ∨ i = 14 ∨ i = 15 ∨ i = 16 ∨ i = 17 ∨ i = 18 ∨ i = 19 ∨ i = 20 ∨ i = 21 ∨ i = 22 ∨ i = 23 ∨ i = 24 ∨ i = 25 ∨ i = 26 ∨ i = 27 ∨ i = 28 ∨ i = 29 ∨ i = 30 ∨ i = 31 ∨ i = 32 ∨ i = 33 ∨ i = 34 ∨ i = 35 := by omega
                rcases hi2 with rfl | rfl | rfl | rfl | rfl | rfl | rfl | rfl | rfl | rfl | rfl | rfl | rfl | rfl | rfl | rfl | rfl | rfl | rfl | rfl | rfl | rfl | rfl | rfl | rfl | rfl | rfl | rfl | rfl | rfl | rfl | rfl | rfl | rfl | rfl | rfl
                all_goals
                  have ho' := ho
                  simp only [List.getElem?_toArray, List.getElem?_cons_zero, List.getElem?_cons_succ, Option.some.injEq] at ho'
                  subst ho'
                  refine ⟨(by intro c h; cases h), fun q => ⟨fun _ _ => trivial, ?_⟩⟩
                · exact .inl (by simp [execOp, evP, valP, Act.eval, List.lookup_cons])
                · exact .inl (by simp [execOp, evP, valP, Act.eval, List.lookup_cons, go_sem, d0, d1, d2, d3, d4, d5, d6, d7, ckt, cwt, hti, hc8, hc0, b32_xor, b32_add, b32_and, b32_not])
                · exact .inl (by simp [execOp, evP, valP, Act.eval, List.lookup_cons, go_sem, d0, d1, d2, d3, d4, d5, d6, d7, ckt, cwt, hti, hc8, hc0, b32_xor, b32_add, b32_and, b32_not])
                · exact .inl (by simp [execOp, evP, valP, Act.eval, List.lookup_cons])
                · refine .inr ⟨114, #[W32 ve, .int .u64 6], ?_, (callsIn_wide.2 (right_any _ (ve) 6 (by decide) (by decide))).mono ?_⟩
                  · simp [execOp, evP, valP, Act.eval, List.lookup_cons, go_sem]
                  · rintro e w' ⟨rfl, rfl⟩
                    exact ⟨rfl, 0, rfl⟩
                · exact .inl (by simp [execOp, evP, valP, Act.eval, List.lookup_cons])
                · refine .inr ⟨114, #[W32 ve, .int .u64 11], ?_, (callsIn_wide.2 (right_any _ (ve) 11 (by decide) (by decide))).mono ?_⟩
                  · simp [execOp, evP, valP, Act.eval, List.lookup_cons, go_sem]
                  · rintro e w' ⟨rfl, rfl⟩
                    exact ⟨rfl, 0, rfl⟩
                · exact .inl (by simp [execOp, evP, valP, Act.eval, List.lookup_cons, go_sem, d0, d1, d2, d3, d4, d5, d6, d7, ckt, cwt, hti, hc8, hc0, b32_xor, b32_add, b32_and, b32_not])
                · exact .inl (by simp [execOp, evP, valP, Act.eval, List.lookup_cons])
                · refine .inr ⟨114, #[W32 ve, .int .u64 25], ?_, (callsIn_wide.2 (right_any _ (ve) 25 (by decide) (by decide))).mono ?_⟩
                  · simp [execOp, evP, valP, Act.eval, List.lookup_cons, go_sem]
                  · rintro e w' ⟨rfl, rfl⟩
                    exact ⟨rfl, 0, rfl⟩
                · exact .inl (by simp [execOp, evP, valP, Act.eval, List.lookup_cons, go_sem, d0, d1, d2, d3, d4, d5, d6, d7, ckt, cwt, hti, hc8, hc0, b32_xor, b32_add, b32_and, b32_not])
                · exact .inl (by simp [execOp, evP, valP, Act.eval, List.lookup_cons, go_sem, d0, d1, d2, d3, d4, d5, d6, d7, ckt, cwt, hti, hc8, hc0, b32_xor, b32_add, b32_and, b32_not])
                · exact .inl (by simp [execOp, evP, valP, Act.eval, List.lookup_cons])
                · exact .inl (by simp [execOp, evP, valP, Act.eval, List.lookup_cons])
                · exact .inl (by simp [execOp, evP, valP, Act.eval, List.lookup_cons, go_sem, d0, d1, d2, d3, d4, d5, d6, d7, ckt, cwt, hti, hc8, hc0, b32_xor, b32_add, b32_and, b32_not])
                · exact .inl (by simp [execOp, evP, valP, Act.eval, List.lookup_cons, go_sem, d0, d1, d2, d3, d4, d5, d6, d7, ckt, cwt, hti, hc8, hc0, b32_xor, b32_add, b32_and, b32_not])
                · exact .inl (by simp [execOp, evP, valP, Act.eval, List.lookup_cons, go_sem, d0, d1, d2, d3, d4, d5, d6, d7, ckt, cwt, hti, hc8, hc0, b32_xor, b32_add, b32_and, b32_not])
                · exact .inl (by simp [execOp, evP, valP, Act.eval, List.lookup_cons])
                · exact .inl (by simp [execOp, evP, valP, Act.eval, List.lookup_cons, go_sem, d0, d1, d2, d3, d4, d5, d6, d7, ckt, cwt, hti, hc8, hc0, b32_xor, b32_add, b32_and, b32_not] <;> exact b32_not _)
                · exact .inl (by simp [execOp, evP, valP, Act.eval, List.lookup_cons])
                · exact .inl (by simp [execOp, evP, valP, Act.eval, List.lookup_cons, go_sem, d0, d1, d2, d3, d4, d5, d6, d7, ckt, cwt, hti, hc8, hc0, b32_xor, b32_add, b32_and, b32_not])
                · exact .inl (by simp [execOp, evP, valP, Act.eval, List.lookup_cons, go_sem, d0, d1, d2, d3, d4, d5, d6, d7, ckt, cwt, hti, hc8, hc0, b32_xor, b32_add, b32_and, b32_not])
                · exact .inl (by simp [execOp, evP, valP, Act.eval, List.lookup_cons, go_sem, d0, d1, d2, d3, d4, d5, d6, d7, ckt, cwt, hti, hc8, hc0, b32_xor, b32_add, b32_and, b32_not])
                · exact .inl (by simp [execOp, evP, valP, Act.eval, List.lookup_cons, go_sem, d0, d1, d2, d3, d4, d5, d6, d7, ckt, cwt, hti, hc8, hc0, b32_xor, b32_add, b32_and, b32_not])
                · exact .inl (by simp [execOp, evP, valP, Act.eval, List.lookup_cons, go_sem, d0, d1, d2, d3, d4, d5, d6, d7, ckt, cwt, hti, hc8, hc0, b32_xor, b32_add, b32_and, b32_not])
                · exact .inl (by simp [execOp, evP, valP, Act.eval, List.lookup_cons])
                · exact .inl (by simp [execOp, evP, valP, Act.eval, List.lookup_cons])
                · exact .inl (by simp [execOp, evP, valP, Act.eval, List.lookup_cons, go_sem, d0, d1, d2, d3, d4, d5, d6, d7, ckt, cwt, hti, hc8, hc0, b32_xor, b32_add, b32_and, b32_not])
                · exact .inl (by simp [execOp, evP, valP, Act.eval, List.lookup_cons, go_sem, d0, d1, d2, d3, d4, d5, d6, d7, ckt, cwt, hti, hc8, hc0, b32_xor, b32_add, b32_and, b32_not])
                · exact .inl (by simp [execOp, evP, valP, Act.eval, List.lookup_cons, go_sem, d0, d1, d2, d3, d4, d5, d6, d7, ckt, cwt, hti, hc8, hc0, b32_xor, b32_add, b32_and, b32_not])
                · exact .inl (by simp [execOp, evP, valP, Act.eval, List.lookup_cons])
                · exact .inl (by simp [execOp, evP, valP, Act.eval, List.lookup_cons])
                · exact .inl (by simp [execOp, evP, valP, Act.eval, List.lookup_cons, go_sem, d0, d1, d2, d3, d4, d5, d6, d7, ckt, cwt, hti, hc8, hc0, b32_xor, b32_add, b32_and, b32_not])
                · exact .inl (by simp [execOp, evP, valP, Act.eval, List.lookup_cons, go_sem, d0, d1, d2, d3, d4, d5, d6, d7, ckt, cwt, hti, hc8, hc0, b32_xor, b32_add, b32_and, b32_not])
                · exact .inl (by simp [execOp, evP, valP, Act.eval, List.lookup_cons, go_sem, d0, d1, d2, d3, d4, d5, d6, d7, ckt, cwt, hti, hc8, hc0, b32_xor, b32_add, b32_and, b32_not])
                · exact .inl (by simp [execOp, evP, valP, Act.eval, List.lookup_cons])
              case end20 =>
                intro q
                simp [wrote, valP, Act.put, List.lookup_cons]
                obtain ⟨w6, hw6⟩ : ∃ V, wr.drewN q = V := ⟨_, rfl⟩
                rw [hw6]
                have ew6 : ∀ p, w6.cell? p = wr.cell? p := by rw [← hw6]; intro p; rfl
                have HBw6 := Lib.hid (show Below gv w5 w6 by rw [← hw6]; exact below_drewN HBV.out _)
                rw [← ew6] at d0 d1 d2 d3 d4 d5 d6 d7 ckt cwt
                obtain ⟨y1, hy1⟩ : ∃ y, ((((vh + (((rl32 26 ve) ^^^ (rl32 21 ve)) ^^^ (rl32 7 ve))) + ((ve &&& vf) ^^^ ((~~~ve) &&& vg))) + kt) + wt) = y := ⟨_, rfl⟩
                rw [hy1]
                have HY1 := Lib.hid hy1
                clear hw6 ew6 hy1
                go_wp2_with fail
                refine (wpIn_wide (n := 9)).1 (wpIn_region_pure0 rfl hmx [(130, W32 va), (131, W32 (rl32 30 va)), (132, W32 va), (133, W32 (rl32 19 va)), (134, W32 ((rl32 30 va) ^^^ (rl32 19 va))), (135, W32 va), (136, W32 (rl32 10 va)), (137, W32 (((rl32 30 va) ^^^ (rl32 19 va)) ^^^ (rl32 10 va))), (138, W32 va), (139, .slice (some ⟨b, 0, none⟩) 8 c), (140, .pointer (some ⟨b, 1, none⟩)), (141, W32 vb), (142, W32 (va &&& vb)), (143, W32 va), (144, .slice (some ⟨b, 0, none⟩) 8 c), (145, .pointer (some ⟨b, 2, none⟩)), (146, W32 vc), (147, W32 (va &&& vc)), (148, W32 ((va &&& vb) ^^^ (va &&& vc))), (149, .slice (some ⟨b, 0, none⟩) 8 c), (150, .pointer (some ⟨b, 1, none⟩)), (151, W32 vb), (152, .slice (some ⟨b, 0, none⟩) 8 c), (153, .pointer (some ⟨b, 2, none⟩)), (154, W32 vc), (155, W32 (vb &&& vc)), (156, W32 (((va &&& vb) ^^^ (va &&& vc)) ^^^ (vb &&& vc))), (157, W32 ((((rl32 30 va) ^^^ (rl32 19 va)) ^^^ (rl32 10 va)) + (((va &&& vb) ^^^ (va &&& vc)) ^^^ (vb &&& vc)))), (16, W32 ((((rl32 30 va) ^^^ (rl32 19 va)) ^^^ (rl32 10 va)) + (((va &&& vb) ^^^ (va &&& vc)) ^^^ (vb &&& vc))))] (by kernel_rfl) (by kernel_rfl) (by kernel_rfl) (by kernel_rfl) (by first | rfl | simp) ?ops21 ?end21)
                case ops21 =>
                  intro i o hi ho
                  have hi3 : i < 29 := hi
                  have hi2 : i = 0 ∨ i = 1 ∨ i = 2 ∨ i = 3 ∨ i = 4 ∨ i = 5 ∨ i = 6 ∨ i = 7 ∨ i = 8 ∨ i = 9 ∨ i = 10 ∨ i = 11 ∨ i = 12 ∨ i = 13 ∨ i = 14 ∨ i = 15 ∨ i = 16 ∨ i = 17 ∨ i = 18 ∨ i = 19 ∨ i = 20 ∨ i = 21 ∨ i = 22 ∨ i = 23 ∨ i = 24 ∨ i = 25 ∨ i = 26 ∨ i = 27 ∨ i = 28 := by omega
                  rcases hi2 with rfl | rfl | rfl | rfl | rfl | rfl | rfl | rfl | rfl | rfl | rfl | rfl | rfl | rfl | rfl | rfl | rfl | rfl | rfl | rfl | rfl | rfl | rfl | rfl | rfl | rfl | rfl | rfl | rfl
                  all_goals
                    have ho' := ho
                    simp only [List.getElem?_toArray, List.getElem?_cons_zero, List.getElem?_cons_succ, Option.some.injEq] at ho'
                    subst ho'
                    refine ⟨(by intro c h; cases h), fun q => ⟨fun _ _ => trivial, ?_⟩⟩
                  · exact .inl (by simp [execOp, evP, valP, Act.eval, List.lookup_cons])
                  · refine .inr ⟨114, #[W32 va, .int .u64 2], ?_, (callsIn_wide.2 (right_any _ (va) 2 (by decide) (by decide))).mono ?_⟩
                    · simp [execOp, evP, valP, Act.eval, List.lookup_cons, go_sem]
                    · rintro e w' ⟨rfl, rfl⟩
                      exact ⟨rfl, 0, rfl⟩
                  · exact .inl (by simp [execOp, evP, valP, Act.eval, List.lookup_cons])
                  · refine .inr ⟨114, #[W32 va, .int .u64 13], ?_, (callsIn_wide.2 (right_any _ (va) 13 (by decide) (by decide))).mono ?_⟩
                    · simp [execOp, evP, valP, Act.eval, List.lookup_cons, go_sem]
                    · rintro e w' ⟨rfl, rfl⟩
                      exact ⟨rfl, 0, rfl⟩
                  · exact .inl (by simp [execOp, evP, valP, Act.eval, List.lookup_cons, go_sem, d0, d1, d2, d3, d4, d5, d6, d7, ckt, cwt, hti, hc8, hc0, b32_xor, b32_add, b32_and, b32_not])
                  · exact .inl (by simp [execOp, evP, valP, Act.eval, List.lookup_cons])
                  · refine .inr ⟨114, #[W32 va, .int .u64 22], ?_, (callsIn_wide.2 (right_any _ (va) 22 (by decide) (by decide))).mono ?_⟩
                    · simp [execOp, evP, valP, Act.eval, List.lookup_cons, go_sem]
                    · rintro e w' ⟨rfl, rfl⟩
                      exact ⟨rfl, 0, rfl⟩
                  · exact .inl (by simp [execOp, evP, valP, Act.eval, List.lookup_cons, go_sem, d0, d1, d2, d3, d4, d5, d6, d7, ckt, cwt, hti, hc8, hc0, b32_xor, b32_add, b32_and, b32_not])
                  · exact .inl (by simp [execOp, evP, valP, Act.eval, List.lookup_cons])
                  · exact .inl (by simp [execOp, evP, valP, Act.eval, List.lookup_cons])
                  · exact .inl (by simp [execOp, evP, valP, Act.eval, List.lookup_cons, go_sem, d0, d1, d2, d3, d4, d5, d6, d7, ckt, cwt, hti, hc8, hc0, b32_xor, b32_add, b32_and, b32_not])
                  · exact .inl (by simp [execOp, evP, valP, Act.eval, List.lookup_cons, go_sem, d0, d1, d2, d3, d4, d5, d6, d7, ckt, cwt, hti, hc8, hc0, b32_xor, b32_add, b32_and, b32_not])
                  · exact .inl (by simp [execOp, evP, valP, Act.eval, List.lookup_cons, go_sem, d0, d1, d2, d3, d4, d5, d6, d7, ckt, cwt, hti, hc8, hc0, b32_xor, b32_add, b32_and, b32_not])
                  · exact .inl (by simp [execOp, evP, valP, Act.eval, List.lookup_cons])
                  · exact .inl (by simp [execOp, evP, valP, Act.eval, List.lookup_cons])
                  · exact .inl (by simp [execOp, evP, valP, Act.eval, List.lookup_cons, go_sem, d0, d1, d2, d3, d4, d5, d6, d7, ckt, cwt, hti, hc8, hc0, b32_xor, b32_add, b32_and, b32_not])
                  · exact .inl (by simp [execOp, evP, valP, Act.eval, List.lookup_cons, go_sem, d0, d1, d2, d3, d4, d5, d6, d7, ckt, cwt, hti, hc8, hc0, b32_xor, b32_add, b32_and, b32_not])
                  · exact .inl (by simp [execOp, evP, valP, Act.eval, List.lookup_cons, go_sem, d0, d1, d2, d3, d4, d5, d6, d7, ckt, cwt, hti, hc8, hc0, b32_xor, b32_add, b32_and, b32_not])
                  · exact .inl (by simp [execOp, evP, valP, Act.eval, List.lookup_cons, go_sem, d0, d1, d2, d3, d4, d5, d6, d7, ckt, cwt, hti, hc8, hc0, b32_xor, b32_add, b32_and, b32_not])
                  · exact .inl (by simp [execOp, evP, valP, Act.eval, List.lookup_cons])
                  · exact .inl (by simp [execOp, evP, valP, Act.eval, List.lookup_cons, go_sem, d0, d1, d2, d3, d4, d5, d6, d7, ckt, cwt, hti, hc8, hc0, b32_xor, b32_add, b32_and, b32_not])
                  · exact .inl (by simp [execOp, evP, valP, Act.eval, List.lookup_cons, go_sem, d0, d1, d2, d3, d4, d5, d6, d7, ckt, cwt, hti, hc8, hc0, b32_xor, b32_add, b32_and, b32_not])
                  · exact .inl (by simp [execOp, evP, valP, Act.eval, List.lookup_cons])
                  · exact .inl (by simp [execOp, evP, valP, Act.eval, List.lookup_cons, go_sem, d0, d1, d2, d3, d4, d5, d6, d7, ckt, cwt, hti, hc8, hc0, b32_xor, b32_add, b32_and, b32_not])
                  · exact .inl (by simp [execOp, evP, valP, Act.eval, List.lookup_cons, go_sem, d0, d1, d2, d3, d4, d5, d6, d7, ckt, cwt, hti, hc8, hc0, b32_xor, b32_add, b32_and, b32_not])
                  · exact .inl (by simp [execOp, evP, valP, Act.eval, List.lookup_cons, go_sem, d0, d1, d2, d3, d4, d5, d6, d7, ckt, cwt, hti, hc8, hc0, b32_xor, b32_add, b32_and, b32_not])
                  · exact .inl (by simp [execOp, evP, valP, Act.eval, List.lookup_cons, go_sem, d0, d1, d2, d3, d4, d5, d6, d7, ckt, cwt, hti, hc8, hc0, b32_xor, b32_add, b32_and, b32_not])
                  · exact .inl (by simp [execOp, evP, valP, Act.eval, List.lookup_cons, go_sem, d0, d1, d2, d3, d4, d5, d6, d7, ckt, cwt, hti, hc8, hc0, b32_xor, b32_add, b32_and, b32_not])
                  · exact .inl (by simp [execOp, evP, valP, Act.eval, List.lookup_cons])
                case end21 =>
                  intro q
                  simp [wrote, valP, Act.put, List.lookup_cons]
                  obtain ⟨w7, hw7⟩ : ∃ V, w6.drewN q = V := ⟨_, rfl⟩
                  rw [hw7]
                  have ew7 : ∀ p, w7.cell? p = w6.cell? p := by rw [← hw7]; intro p; rfl
                  have HBw7 := Lib.hid (show Below gv w5 w7 by rw [← hw7]; exact below_drewN HBw6.out _)
                  rw [← ew7] at d0 d1 d2 d3 d4 d5 d6 d7 ckt cwt
                  obtain ⟨y2, hy2⟩ : ∃ y, ((((rl32 30 va) ^^^ (rl32 19 va)) ^^^ (rl32 10 va)) + (((va &&& vb) ^^^ (va &&& vc)) ^^^ (vb &&& vc))) = y := ⟨_, rfl⟩
                  rw [hy2]
                  have HY2 := Lib.hid hy2
                  clear hw7 ew7 hy2
                  go_wp2_with fail
                  refine wp_region_still_tail 26 (by kernel_rfl) (by kernel_rfl) ?_
                  simp only [List.take_succ_cons, List.take_zero, List.drop_succ_cons, List.drop_zero]
                  iterate 26 (refine wpStill_step (fun K hK => ?_); go_simp; refine hK _ ?_; clear hK K)
                  refine wpStill_nil ?_
                  go_wp2_with fail
                  have hv : (S (t + 1)).toL = [y1 + y2, va, vb, vc, vd + y1, ve, vf, vg] := by rw [HS1.out, HST.out, HKT.out, HWT.out, ← HY1.out, ← HY2.out]; rfl
                  have hgw7 : gv ≤ w7.heap.size := by have h1 := HBw7.out.size; have h2 := HB5.out.size; have h3 := HGV.out; omega
                  simp only [b32_add']
                  refine ⟨⟨t + 1, w7.heap.size, 8, by omega, rfl, by go_num, hgw7, ?_, Lib.hid (below_drewN (HBw7.out.alloc hgw7 _) 1)⟩, by simp [intOf]; omega⟩
                  rw [hv]
                  exact Lib.hid ((RowV.new w7 102 ([y1 + y2, va, vb, vc, vd + y1, ve, vf, vg].map W32)).sl (by simp))
            · obtain rfl : t = 64 := by omega
              rw [show ((64 : Nat) : Int) = 64 from rfl]
              obtain ⟨wq, rfl⟩ : ∃ V, V = wr := ⟨_, rfl⟩
              obtain ⟨vs, hvs⟩ : ∃ l, (S 64).toL = l := ⟨_, rfl⟩
              have hvl : vs.length = 8 := by rw [← hvs]; rfl
              rw [hvs] at HV
              obtain ⟨cs, hcs⟩ : ∃ l, [s0, s1, s2, s3, s4, s5, s6, s7] = l := ⟨_, rfl⟩
              have hcl : cs.length = 8 := by rw [← hcs]; rfl
              have HRHQ : Hid (RowV 102 wq gh (cs.map W32)) := Lib.hid (by rw [← hcs]; exact (HRH.out.below HB5.out (by omega)).below HBV.out (by omega))
              have HCS := Lib.hid hcs
              have HVS := Lib.hid hvs
              have hcap8 : 8 ≤ c := HV.out.cap
              have kc8 : (8 : Int) ≤ c := by omega
              have kc9 : (c : Int) ≤ 9223372036854775807 := by have := HV.out.max; omega
              clear hcs hvs
              have hgbq : b < wq.heap.size := by
                obtain ⟨b', o', e, hb', _⟩ := HV.out.2.2.2 (by intro e; have := congrArg List.length e; simp [hvl] at this)
                injection e with e
                injection e with e1
                omega
              go_wp2
              go_loopw [17] (fun kv W => ∃ k : Nat, k ≤ 8 ∧ kv = .int .i64 (k : Int) ∧ Hid (RowV 102 W gh (((add3L cs vs).take k ++ cs.drop k).map W32)) ∧ Hid (OnlyV wq W gh)) (fun kv _ => 8 - (intOf kv).toNat)
              case atStart => exact ⟨0, by decide, rfl, Lib.hid (by simpa using HRHQ.out), Lib.hid (OnlyV.refl _ _)⟩
              case round =>
                obtain ⟨k, hk, rfl, HRK8, HOQ⟩ := hrel
                by_cases hk8 : k < 8
                · have hki : (k : Int) < 8 := by omega
                  have hki0 : (0 : Int) ≤ k := by omega
                  obtain ⟨b', o', e, hb', clv⟩ := HV.out.2.2.2 (by intro e; have := congrArg List.length e; simp [hvl] at this)
                  injection e with e
                  injection e with e1 e2
                  subst e1
                  subst e2
                  obtain ⟨x, hx⟩ : ∃ x, cs[k]? = some x := ⟨cs[k], List.getElem?_eq_getElem (by omega)⟩
                  obtain ⟨y, hy⟩ : ∃ y, vs[k]? = some y := ⟨vs[k], List.getElem?_eq_getElem (by omega)⟩
                  have hal : (add3L cs vs).length = 8 := by simp [add3L, hcl, hvl]
                  have haz : (add3L cs vs)[k]? = some (x + y) := by rw [add3L, List.getElem?_map, List.getElem?_zip_eq_some (z := (x, y)) |>.2 ⟨hx, hy⟩]; rfl
                  have cy : wr.cell? ⟨b, k, none⟩ = some (W32 y) := by
                    have := clv k (W32 y) (by rw [List.getElem?_map, hy]; rfl)
                    rw [Nat.zero_add] at this
                    exact (HOQ.out.cell (p := ⟨b, k, none⟩) hgbq (by show b ≠ gh; omega)).trans this
                  have cx : wr.cell? ⟨gh, k, none⟩ = some (W32 x) := HRK8.out.at_ (by
                    rw [List.getElem?_map, List.getElem?_append_right (by simp; omega), List.getElem?_drop]
                    simp only [List.length_take, hal]
                    rw [show k + (k - min k 8) = k by omega, hx]; rfl)
                  have hfz := HRK8.out.frozen k
                  have hnr := HRK8.out.set k (W32 (x + y))
                  rw [← List.map_set] at hnr
                  have hls : ((add3L cs vs).take k ++ cs.drop k).set k (x + y) = (add3L cs vs).take (k + 1) ++ cs.drop (k + 1) := by
                    rw [List.set_append_right _ _ (by simp; omega)]
                    simp only [List.length_take, hal]
                    rw [show k - min k 8 = 0 by omega, List.take_add_one, haz, List.drop_eq_getElem_cons (by omega : k < cs.length), List.set_cons_zero]
                    simp
                  rw [hls] at hnr
                  have HNR := Lib.hid hnr
                  have HOX := Lib.hid (HOQ.out.set k (W32 (x + y)))
                  clear hx hy haz hls hnr clv
                  go_wp2_with fail
                  refine (wpIn_wide (n := 9)).1 (wpIn_region_pure rfl hmx [(189, .slice (some ⟨gh, 0, none⟩) 8 8), (190, .int .i64 (k : Int)), (191, .pointer (some ⟨gh, k, none⟩)), (192, W32 x), (193, .slice (some ⟨b, 0, none⟩) 8 c), (194, .int .i64 (k : Int)), (195, .pointer (some ⟨b, k, none⟩)), (196, W32 y), (197, W32 (x + y)), (198, .pointer (some ⟨gh, k, none⟩))] (by kernel_rfl) (by kernel_rfl) (by kernel_rfl) (by kernel_rfl) (by first | rfl | simp) 10 (wr.setCell ⟨gh, k, none⟩ (W32 (x + y))) rfl (by kernel_rfl) ?ops26 ?last26 ?end26)
                  case ops26 =>
                    intro i o hi ho
                    have hi2 : i = 0 ∨ i = 1 ∨ i = 2 ∨ i = 3 ∨ i = 4 ∨ i = 5 ∨ i = 6 ∨ i = 7 ∨ i = 8 ∨ i = 9 := by omega
                    rcases hi2 with rfl | rfl | rfl | rfl | rfl | rfl | rfl | rfl | rfl | rfl
                    all_goals
                      have ho' := ho
                      simp only [List.getElem?_toArray, List.getElem?_cons_zero, List.getElem?_cons_succ, Option.some.injEq] at ho'
                      subst ho'
                      refine ⟨(by intro c h; cases h), fun q => ⟨fun _ _ => trivial, ?_⟩⟩
                    · exact .inl (by simp [execOp, evP, valP, Act.eval, List.lookup_cons])
                    · exact .inl (by simp [execOp, evP, valP, Act.eval, List.lookup_cons])
                    · exact .inl (by simp [execOp, evP, valP, Act.eval, List.lookup_cons, go_sem, cx, cy, hki, hki0, kc8, kc9, b32_add])
                    · exact .inl (by simp [execOp, evP, valP, Act.eval, List.lookup_cons, go_sem, cx, cy, hki, hki0, kc8, kc9, b32_add])
                    · exact .inl (by simp [execOp, evP, valP, Act.eval, List.lookup_cons])
                    · exact .inl (by simp [execOp, evP, valP, Act.eval, List.lookup_cons])
                    · exact .inl (by simp [execOp, evP, valP, Act.eval, List.lookup_cons, go_sem, cx, cy, hki, hki0, kc8, kc9, b32_add])
                    · exact .inl (by simp [execOp, evP, valP, Act.eval, List.lookup_cons, go_sem, cx, cy, hki, hki0, kc8, kc9, b32_add])
                    · exact .inl (by simp [execOp, evP, valP, Act.eval, List.lookup_cons, go_sem, cx, cy, hki, hki0, kc8, kc9, b32_add])
                    · exact .inl (by simp [execOp, evP, valP, Act.eval, List.lookup_cons, go_sem, cx, cy, hki, hki0, kc8, kc9, b32_add])
                  case last26 =>
                    intro o ho
                    have ho' := ho
                    simp only [List.getElem?_toArray, List.getElem?_cons_zero, List.getElem?_cons_succ, Option.some.injEq] at ho'
                    subst ho'
                    refine ⟨(by intro c h; cases h), fun q => ⟨fun _ _ => trivial, .inl ⟨?_, rfl⟩⟩⟩
                    simp [execOp, evP, valP, Act.eval, List.lookup_cons, go_sem, cx, hfz, hki]
                    try rfl
                  case end26 =>
                    intro q
                    simp [wrote, valP, Act.put, List.lookup_cons]
                    go_wp2
                    go_roundw
                    case rel => exact ⟨k + 1, by omega, by go_num, Lib.hid HNR.out, Lib.hid (OnlyV.drewN HOX.out _)⟩
                    case measure => simp [intOf]; omega
                · obtain rfl : k = 8 := by omega
                  have hch : ch32 xs ms (i + 1) = add3L cs vs := by
                    rw [ch32, HBI.out, HWS.out, HHC.out, show H32.ofL [s0, s1, s2, s3, s4, s5, s6, s7] = ⟨s0, s1, s2, s3, s4, s5, s6, s7⟩ from rfl, HSS.out, HVS.out, HCS.out]
                  have hal : (add3L cs vs).length = 8 := by simp [add3L, hcl, hvl]
                  have hfin : RowV 102 wr gh ((ch32 xs ms (i + 1)).map W32) := by
                    have := HRK8.out
                    rw [List.take_of_length_le (by omega), List.drop_eq_nil_of_le (by omega), List.append_nil] at this
                    rw [hch]; exact this
                  have hwr : OnlyV wo wr gh := ((OnlyV.of_below (a := wo) (w := wp) (by rw [HGW.out]; exact HBALL.out) gh).trans (OnlyV.of_below (a := wp) (w := wq) (by rw [HGV.out]; exact HB5.out.trans HBV.out) gh)).trans HOQ.out
                  have hall : OnlyV w2 wr gh := HOV.out.trans hwr
                  have hsm := HS.out.onlyN hwr (by omega) HOV.out.size
                  have hkr : RowV 102 wr g0 (k32L.map W32) := HKR.out.only hwr (by omega)
                  have HFIN := Lib.hid hfin
                  have HALL := Lib.hid hall
                  have HSMM := Lib.hid hsm
                  have HKRR := Lib.hid hkr
                  have hcapZ := HS.out.cap
                  clear hch hal hfin hwr hall hsm hkr
                  by_cases hc64 : c' = 64
                  · obtain rfl : Z = 64 := by omega
                    subst hc64
                    go_wp2
                    go_roundw
                    case rel =>
                      have hz0 : 64 * (N - (i + 1)) = 0 := by have := HZ.out; omega
                      refine ⟨i + 1, off, 0, by omega, by rw [hz0], ?_, Lib.hid HFIN.out, Lib.hid HKRR.out, Lib.hid HALL.out⟩
                      rw [hz0, List.drop_eq_nil_of_le (by rw [HML.out]; have := HZ.out; omega)]
                      exact Lib.hid (SlV.nil _ _ _ (by decide))
                    case measure => simp
                  · have hc64' : ¬ (c' : Int) = 64 := by omega
                    go_wp2
                    go_roundw
                    case rel =>
                      have hz0 : 64 * (N - (i + 1)) = Z - 64 := by have := HZ.out; omega
                      refine ⟨i + 1, off + 64, c' - 64, by omega, by rw [hz0], ?_, Lib.hid HFIN.out, Lib.hid HKRR.out, Lib.hid HALL.out⟩
                      have := HSMM.out.drop (k := 64) (by omega)
                      rw [← List.map_drop, ← HBI.out, List.drop_drop] at this
                      rw [hz0]
                      exact Lib.hid this
                    case measure => simp; omega
    · obtain rfl : i = N := by omega
      have hz0 : 64 * (i - i) = 0 := by omega
      rw [hz0]
      obtain ⟨fs, hfs⟩ : ∃ fs, ch32 xs ms i = fs := ⟨_, rfl⟩
      have hfl : fs.length = 8 := by rw [← hfs]; exact HC32.out i
      rw [hfs] at HR
      have hsl : SlV wo wo.heap.size (some ⟨gh, 0, none⟩) 8 8 (fs.map W32) := by
        have := HR.out.sl (by simp; omega)
        simpa [hfl] using this
      have hwd := words_any wo wo.heap.size (some ⟨gh, 0, none⟩) 8 8 fs hsl (Nat.le_refl _) (by decide)
      have HWD := Lib.hid hwd
      have HFS := Lib.hid hfs
      clear hsl hwd hfs
      go_wp2_with fail
      refine HWD.out.mono ?_
      rintro e w9 ⟨v9, rfl, ho9, b9⟩
      go_wp2
      go_ret
      refine ⟨v9, rfl, ?_, (HO2.out.trans HOV.out).trans (OnlyV.of_below b9 gh)⟩
      rw [HFS.out]
      exact own_base ho9 (by have h1 := HOV.out.size; omega)
end Go.Proofs.YtnpaidieijlkkaaDoor

/- the program's SHA-384 and SHA-512 and the reference's: numbers alone. -/
set_option linter.unusedVariables false
set_option linter.unusedSimpArgs false
namespace Go.Proofs.YtnpaidieijlkkaaDoor
open Go.RowKit Go.Shelf
/-- the reference's words after so many blocks -/
def ch64 (hs : List (BitVec 64)) (ms : List (BitVec 8)) : Nat → List (BitVec 64)
  | 0 => hs
  | i + 1 => add64L (ch64 hs ms i) (st64 (sched64 (ms.drop (128 * i)) 80) (H64.ofL (ch64 hs ms i)) 80).toL
/-- words of 64 bits as bytes -/
def wordsL64 : List (BitVec 64) → List (BitVec 8)
  | [] => []
  | x :: r => wordsL [(x >>> 32).setWidth 32, x.setWidth 32] ++ wordsL64 r
theorem rd64_take (bs : List (BitVec 8)) (t : Nat) (h : t < 16) : rd64 (bs.take 128) t = rd64 bs t := by
  rw [rd64, rd64, List.drop_take, List.take_take, Nat.min_eq_left (by omega)]
theorem sched64_take (bs : List (BitVec 8)) : ∀ t, sched64 (bs.take 128) t = sched64 bs t
  | 0 => rfl
  | t + 1 => by
    rw [sched64, sched64, sched64_take bs t]
    by_cases h : t < 16
    · rw [if_pos h, if_pos h, rd64_take bs t h]
    · rw [if_neg h, if_neg h]
theorem chain64 (k : Int) (hk : k = 4 ∨ k = 5) (ws : List (BitVec 64)) (M : List (BitVec 8)) : ∀ n, chainV k ws M n = ch64 ws M n
  | 0 => rfl
  | n + 1 => by
    have hb : blN k = 128 := by rcases hk with rfl | rfl <;> rfl
    have hc : ∀ a b, compV k a b = comp64 a b := fun a b => by rcases hk with rfl | rfl <;> rfl
    rw [chainV, hc, comp64, chain64 k hk ws M n, ch64, hb, pieceL, sched64_take]
theorem hi_byte (x : BitVec 64) (s : Nat) (hs : s ≤ 24) : (((x >>> 32).setWidth 32) >>> s).setWidth 8 = (x >>> (32 + s)).setWidth 8 := by
  apply BitVec.eq_of_getLsbD_eq
  intro i hi
  simp only [BitVec.getLsbD_setWidth, BitVec.getLsbD_ushiftRight]
  rw [show decide (s + i < 32) = true by simp; omega, Bool.true_and, Nat.add_assoc]
theorem lo_byte (x : BitVec 64) (s : Nat) (hs : s ≤ 24) : ((x.setWidth 32) >>> s).setWidth 8 = (x >>> s).setWidth 8 := by
  apply BitVec.eq_of_getLsbD_eq
  intro i hi
  simp only [BitVec.getLsbD_setWidth, BitVec.getLsbD_ushiftRight]
  rw [show decide (s + i < 32) = true by simp; omega, Bool.true_and]
theorem hi_byte0 (x : BitVec 64) : ((x >>> 32).setWidth 32).setWidth 8 = (x >>> 32).setWidth 8 := BitVec.setWidth_setWidth_of_le _ (by decide)
theorem lo_byte0 (x : BitVec 64) : (x.setWidth 32).setWidth 8 = x.setWidth 8 := BitVec.setWidth_setWidth_of_le _ (by decide)
theorem out64 (k : Int) (hk : k = 4 ∨ k = 5) (ws : List (BitVec 64)) (h : ws.length = 8) : outL k ws = (wordsL64 ws).take (szN k) := by
  obtain ⟨a, b, c, d, e, f, g, i, rfl⟩ := list8 h
  rcases hk with rfl | rfl
  · rw [outL, show szN 4 = 48 from rfl, show blN 4 / 16 = 8 from rfl, show List.range 48 = [0, 1, 2, 3, 4, 5, 6, 7, 8, 9, 10, 11, 12, 13, 14, 15, 16, 17, 18, 19, 20, 21, 22, 23, 24, 25, 26, 27, 28, 29, 30, 31, 32, 33, 34, 35, 36, 37, 38, 39, 40, 41, 42, 43, 44, 45, 46, 47] from rfl]
    simp [outB, wordsL64, wordsL, byte4, lo_byte, lo_byte0, hi_byte, hi_byte0]
  · rw [outL, show szN 5 = 64 from rfl, show blN 5 / 16 = 8 from rfl, show List.range 64 = [0, 1, 2, 3, 4, 5, 6, 7, 8, 9, 10, 11, 12, 13, 14, 15, 16, 17, 18, 19, 20, 21, 22, 23, 24, 25, 26, 27, 28, 29, 30, 31, 32, 33, 34, 35, 36, 37, 38, 39, 40, 41, 42, 43, 44, 45, 46, 47, 48, 49, 50, 51, 52, 53, 54, 55, 56, 57, 58, 59, 60, 61, 62, 63] from rfl]
    simp [outB, wordsL64, wordsL, byte4, lo_byte, lo_byte0, hi_byte, hi_byte0]
theorem sum64 (k : Int) (hk : k = 4 ∨ k = 5) (msg : List (BitVec 8)) (N : Nat) (hN : msg.length + padN msg.length 128 = 128 * N) : sumL k msg = (wordsL64 (ch64 (startsL k) (msg ++ padL msg.length 128) N)).take (szN k) := by
  have hb : blN k = 128 := by rcases hk with rfl | rfl <;> rfl
  have hl : (padM k msg).length / blN k = N := by rw [padM, List.length_append, padL_length, hb, hN]; omega
  rw [sumL, hl, out64 k hk _ (chainV_length k _ _ (startsL_length k) N), chain64 k hk, padM, hb]
theorem up_byte (x : BitVec 8) (k : Nat) (hk : k ≤ 24) : ((x.setWidth 32) <<< k).setWidth 64 = (x.setWidth 64) <<< k := by
  apply BitVec.eq_of_getLsbD_eq
  intro i hi
  simp only [BitVec.getLsbD_setWidth, BitVec.getLsbD_shiftLeft]
  by_cases h : i < 32
  · simp [h, hi, show i - k < 32 by omega, show i - k < 64 by omega]
  · rw [BitVec.getLsbD_of_ge x (i - k) (by omega)]; simp
theorem up_byte0 (x : BitVec 8) : (x.setWidth 32).setWidth 64 = x.setWidth 64 := by have := up_byte x 0 (by decide); rwa [BitVec.shiftLeft_zero, BitVec.shiftLeft_zero] at this
/-- eight bytes: two words of four -/
theorem fold64_two (bs : List (BitVec 8)) (h : 8 ≤ bs.length) : fold64 (bs.take 8) = (fold32 (bs.take 4)).setWidth 64 <<< 32 ||| (fold32 ((bs.drop 4).take 4)).setWidth 64 := by
  obtain ⟨b0, b1, b2, b3, b4, b5, b6, b7, r, rfl⟩ : ∃ b0 b1 b2 b3 b4 b5 b6 b7 r, bs = b0 :: b1 :: b2 :: b3 :: b4 :: b5 :: b6 :: b7 :: r := by
    match bs, h with
    | b0 :: b1 :: b2 :: b3 :: b4 :: b5 :: b6 :: b7 :: r, _ => exact ⟨b0, b1, b2, b3, b4, b5, b6, b7, r, rfl⟩
  simp only [List.take_succ_cons, List.take_zero, List.drop_succ_cons, List.drop_zero]
  rw [word4_eq, word4_eq]
  simp only [fold64, List.foldl, word4, BitVec.setWidth_or, up_byte _ _ (by decide : 24 ≤ 24), up_byte _ _ (by decide : 16 ≤ 24), up_byte _ _ (by decide : 8 ≤ 24), up_byte0, BitVec.shiftLeft_or_distrib, ← BitVec.shiftLeft_add, Nat.reduceAdd, BitVec.or_assoc]
  simp
end Go.Proofs.YtnpaidieijlkkaaDoor
