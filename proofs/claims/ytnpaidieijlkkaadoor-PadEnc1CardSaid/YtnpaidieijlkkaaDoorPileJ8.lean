/- Parts of one proof, joined: Sk, So, Sl, Sn, Sm, Str, Hy, Sh. -/
import Derived.Test.YtnpaidieijlkkaaDoorPileJ7
import Derived.StillTail
import Derived.Test.YtnpaidieijlkkaaDoorPileJ5
import Derived.Test.YtnpaidieijlkkaaDoorPileJ3
import Derived.Laws.IdiomStrings
import Derived.Laws.BytesString
import Derived.Lib.SlBytesConst
import Derived.OpenShut

/- baileyref3: sha1. -/
set_option linter.unusedVariables false
set_option linter.unusedSimpArgs false
namespace Go.Proofs.YtnpaidieijlkkaaDoor
open Go.RowKit Go.Shelf

theorem list5 {α : Type} {l : List α} (h : l.length = 5) : ∃ a b c d e, l = [a, b, c, d, e] := by
  match l, h with
  | [a, b, c, d, e], _ => exact ⟨a, b, c, d, e, rfl⟩
set_option maxRecDepth 100000 in
set_option maxHeartbeats 20000000 in
theorem rsha1_any (w : World) (B : Nat) (A : Option Addr) (n c : Nat) (bs : List (BitVec 8)) (hs : SlV w B A n c (bs.map W8)) (hz : A = none → c = 0) (hB : B ≤ w.heap.size) (hn : n ≤ 1000000000) :
    Calls Tryd.prog 82 #[.slice A n c] w fun e w' => ∃ v, e = .returned v ∧ w'.ownsRow w.heap.size 5 1 v 20 ((wordsL (ch1 start1 (bs ++ padL n 64) ((n + padN n 64) / 64))).map W8) ∧ Below w.heap.size w w' := by
  obtain ⟨N, hN, hN1, hpl⟩ := padN_64 n
  have hp := fun w1 (b1 : Below w.heap.size w w1) => rpad_any w1 B A n c bs (hs.below (b1.mono hB)) hz (Nat.le_trans hB b1.size) hn 64 (.inl rfl)
  rw [hN]
  rw [show 64 * N / 64 = N by omega]
  rw [show ((64 : Nat) : Int) = 64 from rfl, show ((64 / 8 : Nat) : Int) = 8 from rfl] at hp
  simp only [hN] at hp
  obtain ⟨ms, hms⟩ : ∃ ms, bs ++ padL n 64 = ms := ⟨_, rfl⟩
  rw [hms] at hp ⊢
  have hNb : N ≤ 15625002 := by omega
  have hmx : Tryd.prog.follows .mixedOrders = true := by kernel_rfl
  obtain ⟨w1, e1, r1, b1, z1⟩ := newV w 102 (start1.map W32) #[.int .u32 1732584193, .int .u32 4023233417, .int .u32 2562383102, .int .u32 271733878, .int .u32 3285377520] (by kernel_rfl)
  obtain ⟨gh, hgh⟩ : ∃ g, w.heap.size = g := ⟨_, rfl⟩
  obtain ⟨xs, hxs⟩ : ∃ l, start1 = l := ⟨_, rfl⟩
  have hxl : xs.length = 5 := by rw [← hxs]; rfl
  rw [hxs] at r1 ⊢
  rw [hgh] at r1 hp b1 ⊢
  have HGH := Lib.hid hgh
  have HP := Lib.hid hp
  have HB1 := Lib.hid b1
  have HR1 := Lib.hid r1
  have hz1 : w1.heap.size = gh + 1 := by omega
  have HZ1 := Lib.hid hz1
  clear hN hpl hms hs hp hgh hB r1 b1 z1 hz1 hxs
  go_enter Tryd.func82, Tryd.ntmps82
  go_wp2_with fail
  rw [HGH.out]
  refine (HP.out w1 HB1.out).mono ?_
  rintro e w2 ⟨v, rfl, ho, b2⟩
  obtain ⟨A2, c2, rfl, sm, hbm, hA2⟩ := SlV.of_own ho
  obtain ⟨gm, off, s0, rfl⟩ : ∃ gm off s, A2 = some ⟨gm, off, s⟩ := by
    cases A2 with
    | none => have := hA2 rfl; omega
    | some a => exact ⟨a.block, a.off, a.spot, rfl⟩
  obtain rfl : s0 = none := by
    obtain ⟨b', o', e, _⟩ := sm.2.2.2 (by intro e; have := sm.len; rw [e] at this; simp at this; omega)
    injection e with e
    injection e
  have hgm : w1.heap.size ≤ gm := hbm _ _ _ rfl
  have h01 := HZ1.out
  have hrh2 := HR1.out.later b2
  have hgm2 : gm < w2.heap.size := by
    obtain ⟨b', o', e, hb', _⟩ := sm.2.2.2 (by intro e; have := sm.len; rw [e] at this; simp at this; omega)
    injection e with e
    injection e with e1
    omega
  have hmcap := sm.cap
  have hmmax := sm.max
  have hml : ms.length = 64 * N := by have := sm.len; simpa using this.symm
  have HSM := Lib.hid sm
  have HRH2 := Lib.hid hrh2
  have HB2 := Lib.hid (HB1.out.trans (b2.mono (by omega : gh ≤ w1.heap.size)))
  have HCAP := Lib.hid hmcap
  have HMAX := Lib.hid hmmax
  have HML := Lib.hid hml
  have HC5 := Lib.hid (ch1_length xs ms hxl)
  clear ho b2 hA2 hbm hrh2 sm hmcap hmmax hml
  go_wp2
  go_loopw [4] (fun m wr => ∃ i off c' : Nat, i ≤ N ∧ m = .slice (some ⟨gm, off, none⟩) (64 * (N - i)) c' ∧ Hid (SlV wr w2.heap.size (some ⟨gm, off, none⟩) (64 * (N - i)) c' ((ms.drop (64 * i)).map W8)) ∧ Hid (RowV 102 wr gh ((ch1 xs ms i).map W32)) ∧ Hid (OnlyV w2 wr gh)) (fun m _ => match m with | .slice _ n _ => n | _ => 0)
  case atStart => exact ⟨0, off, c2, Nat.zero_le _, rfl, Lib.hid HSM.out, Lib.hid HRH2.out, Lib.hid (OnlyV.refl _ _)⟩
  case round =>
    obtain ⟨wo, rfl⟩ : ∃ V, V = wr := ⟨_, rfl⟩
    obtain ⟨i, off, c', hi, rfl, HS, HR, HOV⟩ := hrel
    by_cases hiN : i < N
    · obtain ⟨Z, hZ⟩ : ∃ Z, 64 * (N - i) = Z := ⟨_, rfl⟩
      have hZ1 : 64 ≤ Z := by omega
      obtain ⟨bi, hbi⟩ : ∃ bi, ms.drop (64 * i) = bi := ⟨_, rfl⟩
      rw [hZ, hbi] at HS
      rw [hZ]
      have hbl : bi.length = Z := by rw [← hbi, List.length_drop, HML.out]; omega
      have hcp : Z ≤ c' := HS.out.cap
      have hcm : c' ≤ 9223372036854775807 := HS.out.max
      have kZ : (0 : Int) < Z := by omega
      have kZ2 : (64 : Int) ≤ Z := by omega
      have kZ3 : (Z : Int) ≤ 1000000128 := by omega
      have kc1 : (Z : Int) ≤ c' := by omega
      have kc2 : (c' : Int) ≤ 9223372036854775807 := by omega
      obtain ⟨gw, hgw⟩ : ∃ g, wo.heap.size = g := ⟨_, rfl⟩
      have HGS : w2.heap.size ≤ gw := by have := HOV.out.size; omega
      have HGW := Lib.hid hgw
      have HZ := Lib.hid hZ
      have HBI := Lib.hid hbi
      have HBL := Lib.hid hbl
      clear hZ hbi hbl hcp hcm hgw
      go_wp2_with (at_make; refine wlv_make Tryd.elem32 rfl _ rfl _ 80 rfl rfl (by decide) ?_; intro w3 r3 b3 z3; rw [HGW.out] at r3 b3 z3; have HR3 := Lib.hid r3; have HB3 := Lib.hid b3; have HZ3 := Lib.hid z3; clear r3 b3 z3; rw [HGW.out])
      go_loopw [6] (fun tv W => ∃ t : Nat, t ≤ 80 ∧ tv = .int .i64 (t : Int) ∧ Hid (SchS W 80 gw t (sched1 bi t)) ∧ Hid (Below gw w3 W)) (fun tv _ => 80 - (intOf tv).toNat)
      case atStart => exact ⟨0, Nat.zero_le _, rfl, Lib.hid ⟨HR3.out, rfl⟩, Lib.hid (Below.refl _ _)⟩
      case round =>
        obtain ⟨t, ht, rfl, HSC, HBW⟩ := hrel
        by_cases ht80 : t < 80
        · have kt : (t : Int) < 80 := by omega
          have kt0 : (0 : Int) ≤ t := by omega
          have kt1 : (t : Int) ≤ 79 := by omega
          have ce := HSC.out.end_ ht80
          have hfz := HSC.out.row.frozen t
          by_cases ht16 : t < 16
          · have kt16 : (t : Int) < 16 := by omega
            obtain ⟨q, hq⟩ : ∃ q, 4 * t = q := ⟨_, rfl⟩
            have hqI : (4 : Int) * t = q := by omega
            have kq0 : (0 : Int) ≤ q := by omega
            have kq1 : (q : Int) ≤ 60 := by omega
            have kq2 : (q : Int) ≤ c' := by omega
            have kq3 : (q : Int) ≤ Z := by omega
            have kq4 : ¬ (c' : Int) = q := by omega
            have kq5 : ¬ c' = q := by omega
            have HQ := Lib.hid hq
            clear hq
            have hs' := (HS.out.below ((HB3.out.trans HBW.out).mono HGS)).drop (k := q) (by omega)
            rw [← List.map_drop] at hs'
            have hwd := word_any wr w2.heap.size gm (off + q) (Z - q) (c' - q) (bi.drop q) hs' (by omega)
            obtain ⟨y, hy⟩ : ∃ y, rd32 bi t = y := ⟨_, rfl⟩
            rw [show fold32 ((bi.drop q).take 4) = y by rw [← hy, rd32, HQ.out]] at hwd
            have HWD := Lib.hid hwd
            have HY := Lib.hid hy
            clear hs' hwd hy
            go_wp2_with fail
            refine HWD.out.mono ?_
            rintro e w5 ⟨rfl, q0, rfl⟩
            have hval : sched1 bi (t + 1) = sched1 bi t ++ [y] := by rw [sched1, if_pos ht16, HY.out]
            have hnx := HSC.out.put ht80 y
            rw [← hval] at hnx
            have HNX := Lib.hid hnx
            have HBX := Lib.hid (below_setV HBW.out (Nat.le_refl gw) t (W32 y))
            clear hnx hval
            go_wp2
            go_round
            case rel => exact ⟨t + 1, by omega, by go_num, Lib.hid ⟨HNX.out.row, HNX.out.len⟩, Lib.hid (below_drewN HBX.out _)⟩
            case measure => simp [intOf]; omega
          · have hti : (t : Int) < 80 := kt
            have kt16 : ¬ (t : Int) < 16 := by omega
            obtain ⟨p3, h3⟩ : ∃ p, t - 3 = p := ⟨_, rfl⟩
            obtain ⟨p8, h8⟩ : ∃ p, t - 8 = p := ⟨_, rfl⟩
            obtain ⟨p14, h14⟩ : ∃ p, t - 14 = p := ⟨_, rfl⟩
            obtain ⟨p16, h16⟩ : ∃ p, t - 16 = p := ⟨_, rfl⟩
            have c3 := HSC.out.at_ (i := p3) (by omega)
            have c8 := HSC.out.at_ (i := p8) (by omega)
            have c14 := HSC.out.at_ (i := p14) (by omega)
            have c16 := HSC.out.at_ (i := p16) (by omega)
            obtain ⟨x, hx⟩ : ∃ x, (sched1 bi t).getD p3 0 = x := ⟨_, rfl⟩
            rw [hx] at c3
            obtain ⟨y, hy⟩ : ∃ x, (sched1 bi t).getD p8 0 = x := ⟨_, rfl⟩
            rw [hy] at c8
            obtain ⟨u, hu⟩ : ∃ x, (sched1 bi t).getD p14 0 = x := ⟨_, rfl⟩
            rw [hu] at c14
            obtain ⟨v, hv⟩ : ∃ x, (sched1 bi t).getD p16 0 = x := ⟨_, rfl⟩
            rw [hv] at c16
            have i3 : (t : Int) - 3 = (p3 : Int) := by omega
            have l3 : (p3 : Int) < 80 := by omega
            have H3 := Lib.hid h3
            have HX := Lib.hid hx
            have i8 : (t : Int) - 8 = (p8 : Int) := by omega
            have l8 : (p8 : Int) < 80 := by omega
            have H8 := Lib.hid h8
            have HY := Lib.hid hy
            have i14 : (t : Int) - 14 = (p14 : Int) := by omega
            have l14 : (p14 : Int) < 80 := by omega
            have H14 := Lib.hid h14
            have HU := Lib.hid hu
            have i16 : (t : Int) - 16 = (p16 : Int) := by omega
            have l16 : (p16 : Int) < 80 := by omega
            have H16 := Lib.hid h16
            have HV := Lib.hid hv
            clear h3 hx h8 hy h14 hu h16 hv
            go_wp2_with fail
            have w3 : IntKind.i64.wrap (p3 : Int) = (p3 : Int) := by rw [IntKind.wrap_i64]; omega
            have w8 : IntKind.i64.wrap (p8 : Int) = (p8 : Int) := by rw [IntKind.wrap_i64]; omega
            have w14 : IntKind.i64.wrap (p14 : Int) = (p14 : Int) := by rw [IntKind.wrap_i64]; omega
            have w16 : IntKind.i64.wrap (p16 : Int) = (p16 : Int) := by rw [IntKind.wrap_i64]; omega
            refine (wpIn_wide (n := 9)).1 (wpIn_region_pure rfl hmx [(39, .slice (some ⟨gw, 0, none⟩) 80 80), (40, .int .i64 (t : Int)), (41, .slice (some ⟨gw, 0, none⟩) 80 80), (42, .int .i64 (t : Int)), (43, .int .i64 (p3 : Int)), (44, .pointer (some ⟨gw, p3, none⟩)), (45, W32 x), (46, .slice (some ⟨gw, 0, none⟩) 80 80), (47, .int .i64 (t : Int)), (48, .int .i64 (p8 : Int)), (49, .pointer (some ⟨gw, p8, none⟩)), (50, W32 y), (51, W32 (x ^^^ y)), (52, .slice (some ⟨gw, 0, none⟩) 80 80), (53, .int .i64 (t : Int)), (54, .int .i64 (p14 : Int)), (55, .pointer (some ⟨gw, p14, none⟩)), (56, W32 u), (57, W32 ((x ^^^ y) ^^^ u)), (58, .slice (some ⟨gw, 0, none⟩) 80 80), (59, .int .i64 (t : Int)), (60, .int .i64 (p16 : Int)), (61, .pointer (some ⟨gw, p16, none⟩)), (62, W32 v), (63, W32 (((x ^^^ y) ^^^ u) ^^^ v)), (64, W32 (rl32 1 ((((x ^^^ y) ^^^ u) ^^^ v)))), (65, .pointer (some ⟨gw, t, none⟩))] (by kernel_rfl) (by kernel_rfl) (by kernel_rfl) (by kernel_rfl) (by first | rfl | simp) 27 (wr.setCell ⟨gw, t, none⟩ (W32 (rl32 1 ((((x ^^^ y) ^^^ u) ^^^ v))))) rfl (by kernel_rfl) ?ops11 ?last11 ?end11)
            case ops11 =>
              intro i o hi ho
              have hi2 : i = 0 ∨ i = 1 ∨ i = 2 ∨ i = 3 ∨ i = 4 ∨ i = 5 ∨ i = 6 ∨ i = 7 ∨ i = 8 ∨ i = 9 ∨ i = 10 ∨ i = 11 ∨ i = 12 ∨ i = 13 ∨ i = 14 ∨ i = 15 ∨ i = 16 ∨ i = 17 ∨ i = 18 ∨ i = 19 ∨ i = 20 ∨ i = 21 ∨ i = 22 ∨ i = 23 ∨ i = 24 ∨ i = 25 ∨ i = 26 := by omega
              rcases hi2 with rfl | rfl | rfl | rfl | rfl | rfl | rfl | rfl | rfl | rfl | rfl | rfl | rfl | rfl | rfl | rfl | rfl | rfl | rfl | rfl | rfl | rfl | rfl | rfl | rfl | rfl | rfl
              all_goals
                have ho' := ho
                simp only [List.getElem?_toArray, List.getElem?_cons_zero, List.getElem?_cons_succ, Option.some.injEq] at ho'
                subst ho'
                refine ⟨(by intro c h; cases h), fun q => ⟨fun _ _ => trivial, ?_⟩⟩
              · exact .inl (by simp [execOp, evP, valP, Act.eval, List.lookup_cons])
              · exact .inl (by simp [execOp, evP, valP, Act.eval, List.lookup_cons])
              · exact .inl (by simp [execOp, evP, valP, Act.eval, List.lookup_cons])
              · exact .inl (by simp [execOp, evP, valP, Act.eval, List.lookup_cons])
              · exact .inl (by simp [execOp, evP, valP, Act.eval, List.lookup_cons, go_sem, i3, l3, w3, c3, i8, l8, w8, c8, i14, l14, w14, c14, i16, l16, w16, c16, hti, b32_xor])
              · exact .inl (by simp [execOp, evP, valP, Act.eval, List.lookup_cons, go_sem, i3, l3, w3, c3, i8, l8, w8, c8, i14, l14, w14, c14, i16, l16, w16, c16, hti, b32_xor])
              · exact .inl (by simp [execOp, evP, valP, Act.eval, List.lookup_cons, go_sem, i3, l3, w3, c3, i8, l8, w8, c8, i14, l14, w14, c14, i16, l16, w16, c16, hti, b32_xor])
              · exact .inl (by simp [execOp, evP, valP, Act.eval, List.lookup_cons])
              · exact .inl (by simp [execOp, evP, valP, Act.eval, List.lookup_cons])
              · exact .inl (by simp [execOp, evP, valP, Act.eval, List.lookup_cons, go_sem, i3, l3, w3, c3, i8, l8, w8, c8, i14, l14, w14, c14, i16, l16, w16, c16, hti, b32_xor])
              · exact .inl (by simp [execOp, evP, valP, Act.eval, List.lookup_cons, go_sem, i3, l3, w3, c3, i8, l8, w8, c8, i14, l14, w14, c14, i16, l16, w16, c16, hti, b32_xor])
              · exact .inl (by simp [execOp, evP, valP, Act.eval, List.lookup_cons, go_sem, i3, l3, w3, c3, i8, l8, w8, c8, i14, l14, w14, c14, i16, l16, w16, c16, hti, b32_xor])
              · exact .inl (by simp [execOp, evP, valP, Act.eval, List.lookup_cons, go_sem, i3, l3, w3, c3, i8, l8, w8, c8, i14, l14, w14, c14, i16, l16, w16, c16, hti, b32_xor])
              · exact .inl (by simp [execOp, evP, valP, Act.eval, List.lookup_cons])
              · exact .inl (by simp [execOp, evP, valP, Act.eval, List.lookup_cons])
              · exact .inl (by simp [execOp, evP, valP, Act.eval, List.lookup_cons, go_sem, i3, l3, w3, c3, i8, l8, w8, c8, i14, l14, w14, c14, i16, l16, w16, c16, hti, b32_xor])
              · exact .inl (by simp [execOp, evP, valP, Act.eval, List.lookup_cons, go_sem, i3, l3, w3, c3, i8, l8, w8, c8, i14, l14, w14, c14, i16, l16, w16, c16, hti, b32_xor])
              · exact .inl (by simp [execOp, evP, valP, Act.eval, List.lookup_cons, go_sem, i3, l3, w3, c3, i8, l8, w8, c8, i14, l14, w14, c14, i16, l16, w16, c16, hti, b32_xor])
              · exact .inl (by simp [execOp, evP, valP, Act.eval, List.lookup_cons, go_sem, i3, l3, w3, c3, i8, l8, w8, c8, i14, l14, w14, c14, i16, l16, w16, c16, hti, b32_xor])
              · exact .inl (by simp [execOp, evP, valP, Act.eval, List.lookup_cons])
              · exact .inl (by simp [execOp, evP, valP, Act.eval, List.lookup_cons])
              · exact .inl (by simp [execOp, evP, valP, Act.eval, List.lookup_cons, go_sem, i3, l3, w3, c3, i8, l8, w8, c8, i14, l14, w14, c14, i16, l16, w16, c16, hti, b32_xor])
              · exact .inl (by simp [execOp, evP, valP, Act.eval, List.lookup_cons, go_sem, i3, l3, w3, c3, i8, l8, w8, c8, i14, l14, w14, c14, i16, l16, w16, c16, hti, b32_xor])
              · exact .inl (by simp [execOp, evP, valP, Act.eval, List.lookup_cons, go_sem, i3, l3, w3, c3, i8, l8, w8, c8, i14, l14, w14, c14, i16, l16, w16, c16, hti, b32_xor])
              · exact .inl (by simp [execOp, evP, valP, Act.eval, List.lookup_cons, go_sem, i3, l3, w3, c3, i8, l8, w8, c8, i14, l14, w14, c14, i16, l16, w16, c16, hti, b32_xor])
              · refine .inr ⟨111, #[W32 (((x ^^^ y) ^^^ u) ^^^ v), .int .u64 1], ?_, (callsIn_wide.2 (left_any _ ((((x ^^^ y) ^^^ u) ^^^ v)) 1 (by decide) (by decide))).mono ?_⟩
                · simp [execOp, evP, valP, Act.eval, List.lookup_cons, go_sem]
                · rintro e w' ⟨rfl, rfl⟩
                  exact ⟨rfl, 0, rfl⟩
              · exact .inl (by simp [execOp, evP, valP, Act.eval, List.lookup_cons, go_sem, i3, l3, w3, c3, i8, l8, w8, c8, i14, l14, w14, c14, i16, l16, w16, c16, hti, b32_xor])
            case last11 =>
              intro o ho
              have ho' := ho
              simp only [List.getElem?_toArray, List.getElem?_cons_zero, List.getElem?_cons_succ, Option.some.injEq] at ho'
              subst ho'
              refine ⟨(by intro c h; cases h), fun q => ⟨fun _ _ => trivial, .inl ⟨?_, rfl⟩⟩⟩
              simp [execOp, evP, valP, Act.eval, List.lookup_cons, go_sem, ce, hfz, hti]
              try rfl
            case end11 =>
              intro q
              simp [wrote, valP, Act.put, List.lookup_cons]
              have hnx := HSC.out.put ht80 ((rl32 1 ((((x ^^^ y) ^^^ u) ^^^ v))))
              have hval : sched1 bi (t + 1) = sched1 bi t ++ [(rl32 1 ((((x ^^^ y) ^^^ u) ^^^ v)))] := by
                rw [sched1, if_neg ht16, next1, H3.out, H8.out, H14.out, H16.out, HX.out, HY.out, HU.out, HV.out]
              rw [← hval] at hnx
              have HNX := Lib.hid hnx
              have HBX := Lib.hid (below_setV HBW.out (Nat.le_refl gw) t (W32 (rl32 1 ((((x ^^^ y) ^^^ u) ^^^ v)))))
              clear hnx hval
              go_wp2
              go_round
              case rel => exact ⟨t + 1, by omega, by go_num, Lib.hid ⟨HNX.out.row, HNX.out.len⟩, Lib.hid (below_drewN HBX.out _)⟩
              case measure => simp [intOf]; omega
        · obtain rfl : t = 80 := by omega
          rw [show ((80 : Nat) : Int) = 80 from rfl]
          obtain ⟨wp, rfl⟩ : ∃ V, V = wr := ⟨_, rfl⟩
          have hw80 : RowV 102 wp gw ((sched1 bi 80).map W32) := by have := HSC.out.row; simpa using this
          obtain ⟨ws, hws⟩ : ∃ ws, sched1 bi 80 = ws := ⟨_, rfl⟩
          have hwl : ws.length = 80 := by rw [← hws]; exact sched1_length _ _
          rw [hws] at hw80
          have hBall : Below gw wo wp := HB3.out.trans HBW.out
          have hrh := HR.out.below hBall (by omega)
          obtain ⟨s0, s1, s2, s3, s4, hhc⟩ := list5 (HC5.out i)
          rw [hhc] at hrh
          have c0 : wp.cell? ⟨gh, 0, none⟩ = some (W32 s0) := hrh.at_ rfl
          have c1 : wp.cell? ⟨gh, 1, none⟩ = some (W32 s1) := hrh.at_ rfl
          have c2 : wp.cell? ⟨gh, 2, none⟩ = some (W32 s2) := hrh.at_ rfl
          have c3 : wp.cell? ⟨gh, 3, none⟩ = some (W32 s3) := hrh.at_ rfl
          have c4 : wp.cell? ⟨gh, 4, none⟩ = some (W32 s4) := hrh.at_ rfl
          have hgws : gw < wp.heap.size := hw80.lt
          have HW80 := Lib.hid hw80
          have HWL := Lib.hid hwl
          have HWS := Lib.hid hws
          have HBALL := Lib.hid hBall
          have HRH := Lib.hid hrh
          have HHC := Lib.hid hhc
          clear hw80 hws hwl hBall hrh hhc
          go_wp2_with fail
          refine (wpIn_wide (n := 9)).1 (wpIn_region_pure0 rfl hmx [(66, .slice (some ⟨gh, 0, none⟩) 5 5), (67, .pointer (some ⟨gh, 0, none⟩)), (68, W32 s0), (69, .slice (some ⟨gh, 0, none⟩) 5 5), (70, .pointer (some ⟨gh, 2, none⟩)), (71, W32 s2), (72, .slice (some ⟨gh, 0, none⟩) 5 5), (73, .pointer (some ⟨gh, 3, none⟩)), (74, W32 s3), (75, .slice (some ⟨gh, 0, none⟩) 5 5), (76, .pointer (some ⟨gh, 4, none⟩)), (77, W32 s4), (7, W32 s0), (8, W32 s2), (9, W32 s3), (10, W32 s4)] (by kernel_rfl) (by kernel_rfl) (by kernel_rfl) (by kernel_rfl) (by first | rfl | simp) ?ops12 ?end12)
          case ops12 =>
            intro i o hi ho
            have hi3 : i < 16 := hi
            have hi2 : i = 0 ∨ i = 1 ∨ i = 2 ∨ i = 3 ∨ i = 4 ∨ i = 5 ∨ i = 6 ∨ i = 7 ∨ i = 8 ∨ i = 9 ∨ i = 10 ∨ i = 11 ∨ i = 12 ∨ i = 13 ∨ i = 14 ∨ i = 15 := by omega
            rcases hi2 with rfl | rfl | rfl | rfl | rfl | rfl | rfl | rfl | rfl | rfl | rfl | rfl | rfl | rfl | rfl | rfl
            all_goals
              have ho' := ho
              simp only [List.getElem?_toArray, List.getElem?_cons_zero, List.getElem?_cons_succ, Option.some.injEq] at ho'
              subst ho'
              refine ⟨(by intro c h; cases h), fun q => ⟨fun _ _ => trivial, ?_⟩⟩
            · exact .inl (by simp [execOp, evP, valP, Act.eval, List.lookup_cons])
            · exact .inl (by simp [execOp, evP, valP, Act.eval, List.lookup_cons, go_sem, c0, c2, c3, c4])
            · exact .inl (by simp [execOp, evP, valP, Act.eval, List.lookup_cons, go_sem, c0, c2, c3, c4])
            · exact .inl (by simp [execOp, evP, valP, Act.eval, List.lookup_cons])
            · exact .inl (by simp [execOp, evP, valP, Act.eval, List.lookup_cons, go_sem, c0, c2, c3, c4])
            · exact .inl (by simp [execOp, evP, valP, Act.eval, List.lookup_cons, go_sem, c0, c2, c3, c4])
            · exact .inl (by simp [execOp, evP, valP, Act.eval, List.lookup_cons])
            · exact .inl (by simp [execOp, evP, valP, Act.eval, List.lookup_cons, go_sem, c0, c2, c3, c4])
            · exact .inl (by simp [execOp, evP, valP, Act.eval, List.lookup_cons, go_sem, c0, c2, c3, c4])
            · exact .inl (by simp [execOp, evP, valP, Act.eval, List.lookup_cons])
            · exact .inl (by simp [execOp, evP, valP, Act.eval, List.lookup_cons, go_sem, c0, c2, c3, c4])
            · exact .inl (by simp [execOp, evP, valP, Act.eval, List.lookup_cons, go_sem, c0, c2, c3, c4])
            · exact .inl (by simp [execOp, evP, valP, Act.eval, List.lookup_cons])
            · exact .inl (by simp [execOp, evP, valP, Act.eval, List.lookup_cons])
            · exact .inl (by simp [execOp, evP, valP, Act.eval, List.lookup_cons])
            · exact .inl (by simp [execOp, evP, valP, Act.eval, List.lookup_cons])
          case end12 =>
            intro q
            simp [wrote, valP, Act.put, List.lookup_cons]
            obtain ⟨S, hS⟩ : ∃ S : Nat → H1, st1 ws ⟨s0, s1, s2, s3, s4⟩ = S := ⟨_, rfl⟩
            have HS0 := Lib.hid (show S 0 = ⟨s0, s1, s2, s3, s4⟩ by rw [← hS]; rfl)
            have HS1 := Lib.hid (show ∀ t, S (t + 1) = round1 t (ws.getD t 0) (S t) from fun t => by rw [← hS]; rfl)
            have HSS := Lib.hid hS
            obtain ⟨wp1, hwp1⟩ : ∃ V, wp.drewN q = V := ⟨_, rfl⟩
            rw [hwp1]
            have c1' : wp1.cell? ⟨gh, 1, none⟩ = some (W32 s1) := by rw [← hwp1]; exact c1
            have HBD := Lib.hid (show Below wp.heap.size wp wp1 by rw [← hwp1]; exact below_drewN (Below.refl _ _) q)
            clear hS hwp1
            go_wp2
            go_loopw [7, 8, 9, 10, 11, 12] (fun av cv dv ev xv tv W => ∃ (t : Nat) (a b c d e : BitVec 32), t ≤ 80 ∧ av = W32 a ∧ cv = W32 c ∧ dv = W32 d ∧ ev = W32 e ∧ xv = W32 b ∧ tv = .int .i64 (t : Int) ∧ Hid (S t = ⟨a, b, c, d, e⟩) ∧ Hid (Below wp.heap.size wp W)) (fun _ _ _ _ _ tv _ => 80 - (intOf tv).toNat)
            case atStart => exact ⟨0, s0, s1, s2, s3, s4, Nat.zero_le _, rfl, rfl, rfl, rfl, rfl, rfl, Lib.hid HS0.out, Lib.hid HBD.out⟩
            case round =>
              obtain ⟨t, a, b, c, d, e, ht, rfl, rfl, rfl, rfl, rfl, rfl, HST, HBV⟩ := hrel
              by_cases ht80 : t < 80
              · have hti : (t : Int) < 80 := by omega
                have hti0 : (0 : Int) ≤ t := by omega
                have cwt := (HW80.out.later HBV.out).at_ (i := t) (v := W32 (ws.getD t 0)) (by rw [List.getElem?_map, List.getD_eq_getElem?_getD, List.getElem?_eq_getElem (by rw [HWL.out]; exact ht80)]; rfl)
                obtain ⟨wt, hwt⟩ : ∃ x, ws.getD t 0 = x := ⟨_, rfl⟩
                rw [hwt] at cwt
                obtain ⟨f, hf⟩ : ∃ f, bendR t b c d = f := ⟨_, rfl⟩
                obtain ⟨kk, hkk⟩ : ∃ k, numR t = k := ⟨_, rfl⟩
                have hnext : S (t + 1) = ⟨rl32 5 a + f + e + kk + wt, a, rl32 30 b, c, d⟩ := by rw [HS1.out, HST.out, round1_eq, hf, hkk, hwt]
                have HNEXT := Lib.hid hnext
                clear hwt hnext
                by_cases g60n : 60 ≤ t
                · have q3 : t / 20 = 3 := by omega
                  have hfe : b ^^^ c ^^^ d = f := by rw [← hf, bendR, q3] <;> rfl
                  have hke : kk = 0xca62c1d6 := by rw [← hkk, numR, q3] <;> rfl
                  have kadd : ∀ z : BitVec 32, IntKind.u32.wrap (i32 z + 3395469782) = i32 (z + kk) := fun z => by rw [hke, ← b32_add, c32_4]
                  have g60 : (60 : Int) ≤ t := by omega
                  have g40 : (40 : Int) ≤ t := by omega
                  have g20 : (20 : Int) ≤ t := by omega
                  have a1 : bits .and .u32 (i32 b) (i32 c) = i32 (b &&& c) := b32_and b c
                  have a0 : IntKind.u32.signed = false := rfl
                  have a2 : bits .xor .u32 IntKind.u32.max (i32 b) = i32 (~~~b) := b32_not b
                  have a3 : bits .and .u32 (i32 (~~~b)) (i32 d) = i32 (~~~b &&& d) := b32_and _ d
                  have a4 : bits .or .u32 (i32 (b &&& c)) (i32 (~~~b &&& d)) = i32 ((b &&& c) ||| (~~~b &&& d)) := b32_or _ _
                  have a5 : bits .xor .u32 (i32 b) (i32 c) = i32 (b ^^^ c) := b32_xor b c
                  have a6 : bits .xor .u32 (i32 (b ^^^ c)) (i32 d) = i32 f := by rw [b32_xor, hfe]
                  have KADD := Lib.hid kadd
                  clear hf hkk hke q3 hfe kadd
                  go_wp2_with fail
                  refine (wpIn_wide (n := 9)).1 (wpIn_region_pure0 rfl hmx [(123, W32 a), (124, W32 (rl32 5 a)), (125, W32 f), (126, W32 ((rl32 5 a) + f)), (127, W32 e), (128, W32 (((rl32 5 a) + f) + e)), (129, .int .u32 3395469782), (130, W32 ((((rl32 5 a) + f) + e) + kk)), (131, .slice (some ⟨gw, 0, none⟩) 80 80), (132, .int .i64 (t : Int)), (133, .pointer (some ⟨gw, t, none⟩)), (134, W32 wt), (135, W32 (((((rl32 5 a) + f) + e) + kk) + wt)), (15, W32 (((((rl32 5 a) + f) + e) + kk) + wt))] (by kernel_rfl) (by kernel_rfl) (by kernel_rfl) (by kernel_rfl) (by first | rfl | simp) ?ops283 ?end283)
                  case ops283 =>
                    intro i o hi ho
                    have hi3 : i < 14 := hi
                    have hi2 : i = 0 ∨ i = 1 ∨ i = 2 ∨ i = 3 ∨ i = 4 ∨ i = 5 ∨ i = 6 ∨ i = 7 ∨ i = 8 ∨ i = 9 ∨ i = 10 ∨ i = 11 ∨ i = 12 ∨ i = 13 := by omega
                    rcases hi2 with rfl | rfl | rfl | rfl | rfl | rfl | rfl | rfl | rfl | rfl | rfl | rfl | rfl | rfl
                    all_goals
                      have ho' := ho
                      simp only [List.getElem?_toArray, List.getElem?_cons_zero, List.getElem?_cons_succ, Option.some.injEq] at ho'
                      subst ho'
                      refine ⟨(by intro c h; cases h), fun q => ⟨fun _ _ => trivial, ?_⟩⟩
                    · exact .inl (by simp [execOp, evP, valP, Act.eval, List.lookup_cons])
                    · refine .inr ⟨111, #[W32 a, .int .u64 5], ?_, (callsIn_wide.2 (left_any _ (a) 5 (by decide) (by decide))).mono ?_⟩
                      · simp [execOp, evP, valP, Act.eval, List.lookup_cons, go_sem]
                      · rintro e w' ⟨rfl, rfl⟩
                        exact ⟨rfl, 0, rfl⟩
                    · exact .inl (by simp [execOp, evP, valP, Act.eval, List.lookup_cons])
                    · exact .inl (by simp [execOp, evP, valP, Act.eval, List.lookup_cons, go_sem, cwt, hti, hti0, b32_add, KADD.out])
                    · exact .inl (by simp [execOp, evP, valP, Act.eval, List.lookup_cons])
                    · exact .inl (by simp [execOp, evP, valP, Act.eval, List.lookup_cons, go_sem, cwt, hti, hti0, b32_add, KADD.out])
                    · exact .inl (by simp [execOp, evP, valP, Act.eval, List.lookup_cons])
                    · exact .inl (by simp [execOp, evP, valP, Act.eval, List.lookup_cons, go_sem, cwt, hti, hti0, b32_add, KADD.out])
                    · exact .inl (by simp [execOp, evP, valP, Act.eval, List.lookup_cons])
                    · exact .inl (by simp [execOp, evP, valP, Act.eval, List.lookup_cons])
                    · exact .inl (by simp [execOp, evP, valP, Act.eval, List.lookup_cons, go_sem, cwt, hti, hti0, b32_add, KADD.out])
                    · exact .inl (by simp [execOp, evP, valP, Act.eval, List.lookup_cons, go_sem, cwt, hti, hti0, b32_add, KADD.out])
                    · exact .inl (by simp [execOp, evP, valP, Act.eval, List.lookup_cons, go_sem, cwt, hti, hti0, b32_add, KADD.out])
                    · exact .inl (by simp [execOp, evP, valP, Act.eval, List.lookup_cons])
                  case end283 =>
                    intro q
                    simp [wrote, valP, Act.put, List.lookup_cons]
                    obtain ⟨w6, hw6⟩ : ∃ V, wr.drewN q = V := ⟨_, rfl⟩
                    rw [hw6]
                    have HBw6 := Lib.hid (show Below wp.heap.size wp w6 by rw [← hw6]; exact below_drewN HBV.out _)
                    clear hw6
                    go_wp2_with fail
                    refine (left_any _ b 30 (by decide) (by decide)).mono ?_
                    rintro e' w' ⟨rfl, rfl⟩
                    go_wp2
                    go_round
                    case rel => exact ⟨t + 1, _, _, _, _, _, by omega, rfl, rfl, rfl, rfl, rfl, by go_num, Lib.hid HNEXT.out, Lib.hid HBw6.out⟩
                    case measure => simp [intOf]; omega
                · by_cases g40n : 40 ≤ t
                  · have q3 : t / 20 = 2 := by omega
                    have hfe : (b &&& c) ||| (b &&& d) ||| (c &&& d) = f := by rw [← hf, bendR, q3] <;> rfl
                    have hke : kk = 0x8f1bbcdc := by rw [← hkk, numR, q3] <;> rfl
                    have kadd : ∀ z : BitVec 32, IntKind.u32.wrap (i32 z + 2400959708) = i32 (z + kk) := fun z => by rw [hke, ← b32_add, c32_3]
                    have g60 : ¬ (60 : Int) ≤ t := by omega
                    have g40 : (40 : Int) ≤ t := by omega
                    have g20 : (20 : Int) ≤ t := by omega
                    have a1 : bits .and .u32 (i32 b) (i32 c) = i32 (b &&& c) := b32_and b c
                    have a0 : IntKind.u32.signed = false := rfl
                    have a2 : bits .xor .u32 IntKind.u32.max (i32 b) = i32 (~~~b) := b32_not b
                    have a3 : bits .and .u32 (i32 (~~~b)) (i32 d) = i32 (~~~b &&& d) := b32_and _ d
                    have a4 : bits .or .u32 (i32 (b &&& c)) (i32 (~~~b &&& d)) = i32 ((b &&& c) ||| (~~~b &&& d)) := b32_or _ _
                    have a5 : bits .and .u32 (i32 b) (i32 d) = i32 (b &&& d) := b32_and b d
                    have a6 : bits .or .u32 (i32 (b &&& c)) (i32 (b &&& d)) = i32 ((b &&& c) ||| (b &&& d)) := b32_or _ _
                    have a7 : bits .and .u32 (i32 c) (i32 d) = i32 (c &&& d) := b32_and c d
                    have a8 : bits .or .u32 (i32 ((b &&& c) ||| (b &&& d))) (i32 (c &&& d)) = i32 f := by rw [b32_or, hfe]
                    have KADD := Lib.hid kadd
                    clear hf hkk hke q3 hfe kadd
                    go_wp2_with fail
                    refine (wpIn_wide (n := 9)).1 (wpIn_region_pure0 rfl hmx [(123, W32 a), (124, W32 (rl32 5 a)), (125, W32 f), (126, W32 ((rl32 5 a) + f)), (127, W32 e), (128, W32 (((rl32 5 a) + f) + e)), (129, .int .u32 2400959708), (130, W32 ((((rl32 5 a) + f) + e) + kk)), (131, .slice (some ⟨gw, 0, none⟩) 80 80), (132, .int .i64 (t : Int)), (133, .pointer (some ⟨gw, t, none⟩)), (134, W32 wt), (135, W32 (((((rl32 5 a) + f) + e) + kk) + wt)), (15, W32 (((((rl32 5 a) + f) + e) + kk) + wt))] (by kernel_rfl) (by kernel_rfl) (by kernel_rfl) (by kernel_rfl) (by first | rfl | simp) ?ops282 ?end282)
                    case ops282 =>
                      intro i o hi ho
                      have hi3 : i < 14 := hi
                      have hi2 : i = 0 ∨ i = 1 ∨ i = 2 ∨ i = 3 ∨ i = 4 ∨ i = 5 ∨ i = 6 ∨ i = 7 ∨ i = 8 ∨ i = 9 ∨ i = 10 ∨ i = 11 ∨ i = 12 ∨ i = 13 := by omega
                      rcases hi2 with rfl | rfl | rfl | rfl | rfl | rfl | rfl | rfl | rfl | rfl | rfl | rfl | rfl | rfl
                      all_goals
                        have ho' := ho
                        simp only [List.getElem?_toArray, List.getElem?_cons_zero, List.getElem?_cons_succ, Option.some.injEq] at ho'
                        subst ho'
                        refine ⟨(by intro c h; cases h), fun q => ⟨fun _ _ => trivial, ?_⟩⟩
                      · exact .inl (by simp [execOp, evP, valP, Act.eval, List.lookup_cons])
                      · refine .inr ⟨111, #[W32 a, .int .u64 5], ?_, (callsIn_wide.2 (left_any _ (a) 5 (by decide) (by decide))).mono ?_⟩
                        · simp [execOp, evP, valP, Act.eval, List.lookup_cons, go_sem]
                        · rintro e w' ⟨rfl, rfl⟩
                          exact ⟨rfl, 0, rfl⟩
                      · exact .inl (by simp [execOp, evP, valP, Act.eval, List.lookup_cons])
                      · exact .inl (by simp [execOp, evP, valP, Act.eval, List.lookup_cons, go_sem, cwt, hti, hti0, b32_add, KADD.out])
                      · exact .inl (by simp [execOp, evP, valP, Act.eval, List.lookup_cons])
                      · exact .inl (by simp [execOp, evP, valP, Act.eval, List.lookup_cons, go_sem, cwt, hti, hti0, b32_add, KADD.out])
                      · exact .inl (by simp [execOp, evP, valP, Act.eval, List.lookup_cons])
                      · exact .inl (by simp [execOp, evP, valP, Act.eval, List.lookup_cons, go_sem, cwt, hti, hti0, b32_add, KADD.out])
                      · exact .inl (by simp [execOp, evP, valP, Act.eval, List.lookup_cons])
                      · exact .inl (by simp [execOp, evP, valP, Act.eval, List.lookup_cons])
                      · exact .inl (by simp [execOp, evP, valP, Act.eval, List.lookup_cons, go_sem, cwt, hti, hti0, b32_add, KADD.out])
                      · exact .inl (by simp [execOp, evP, valP, Act.eval, List.lookup_cons, go_sem, cwt, hti, hti0, b32_add, KADD.out])
                      · exact .inl (by simp [execOp, evP, valP, Act.eval, List.lookup_cons, go_sem, cwt, hti, hti0, b32_add, KADD.out])
                      · exact .inl (by simp [execOp, evP, valP, Act.eval, List.lookup_cons])
                    case end282 =>
                      intro q
                      simp [wrote, valP, Act.put, List.lookup_cons]
                      obtain ⟨w6, hw6⟩ : ∃ V, wr.drewN q = V := ⟨_, rfl⟩
                      rw [hw6]
                      have HBw6 := Lib.hid (show Below wp.heap.size wp w6 by rw [← hw6]; exact below_drewN HBV.out _)
                      clear hw6
                      go_wp2_with fail
                      refine (left_any _ b 30 (by decide) (by decide)).mono ?_
                      rintro e' w' ⟨rfl, rfl⟩
                      go_wp2
                      go_round
                      case rel => exact ⟨t + 1, _, _, _, _, _, by omega, rfl, rfl, rfl, rfl, rfl, by go_num, Lib.hid HNEXT.out, Lib.hid HBw6.out⟩
                      case measure => simp [intOf]; omega
                  · by_cases g20n : 20 ≤ t
                    · have q3 : t / 20 = 1 := by omega
                      have hfe : b ^^^ c ^^^ d = f := by rw [← hf, bendR, q3] <;> rfl
                      have hke : kk = 0x6ed9eba1 := by rw [← hkk, numR, q3] <;> rfl
                      have kadd : ∀ z : BitVec 32, IntKind.u32.wrap (i32 z + 1859775393) = i32 (z + kk) := fun z => by rw [hke, ← b32_add, c32_2]
                      have g60 : ¬ (60 : Int) ≤ t := by omega
                      have g40 : ¬ (40 : Int) ≤ t := by omega
                      have g20 : (20 : Int) ≤ t := by omega
                      have a1 : bits .and .u32 (i32 b) (i32 c) = i32 (b &&& c) := b32_and b c
                      have a0 : IntKind.u32.signed = false := rfl
                      have a2 : bits .xor .u32 IntKind.u32.max (i32 b) = i32 (~~~b) := b32_not b
                      have a3 : bits .and .u32 (i32 (~~~b)) (i32 d) = i32 (~~~b &&& d) := b32_and _ d
                      have a4 : bits .or .u32 (i32 (b &&& c)) (i32 (~~~b &&& d)) = i32 ((b &&& c) ||| (~~~b &&& d)) := b32_or _ _
                      have a5 : bits .xor .u32 (i32 b) (i32 c) = i32 (b ^^^ c) := b32_xor b c
                      have a6 : bits .xor .u32 (i32 (b ^^^ c)) (i32 d) = i32 f := by rw [b32_xor, hfe]
                      have KADD := Lib.hid kadd
                      clear hf hkk hke q3 hfe kadd
                      go_wp2_with fail
                      refine (wpIn_wide (n := 9)).1 (wpIn_region_pure0 rfl hmx [(123, W32 a), (124, W32 (rl32 5 a)), (125, W32 f), (126, W32 ((rl32 5 a) + f)), (127, W32 e), (128, W32 (((rl32 5 a) + f) + e)), (129, .int .u32 1859775393), (130, W32 ((((rl32 5 a) + f) + e) + kk)), (131, .slice (some ⟨gw, 0, none⟩) 80 80), (132, .int .i64 (t : Int)), (133, .pointer (some ⟨gw, t, none⟩)), (134, W32 wt), (135, W32 (((((rl32 5 a) + f) + e) + kk) + wt)), (15, W32 (((((rl32 5 a) + f) + e) + kk) + wt))] (by kernel_rfl) (by kernel_rfl) (by kernel_rfl) (by kernel_rfl) (by first | rfl | simp) ?ops281 ?end281)
                      case ops281 =>
                        intro i o hi ho
                        have hi3 : i < 14 := hi
                        have hi2 : i = 0 ∨ i = 1 ∨ i = 2 ∨ i = 3 ∨ i = 4 ∨ i = 5 ∨ i = 6 ∨ i = 7 ∨ i = 8 ∨ i = 9 ∨ i = 10 ∨ i = 11 ∨ i = 12 ∨ i = 13 := by omega
                        rcases hi2 with rfl | rfl | rfl | rfl | rfl | rfl | rfl | rfl | rfl | rfl | rfl | rfl | rfl | rfl
                        all_goals
                          have ho' := ho
                          simp only [List.getElem?_toArray, List.getElem?_cons_zero, List.getElem?_cons_succ, Option.some.injEq] at ho'
                          subst ho'
                          refine ⟨(by intro c h; cases h), fun q => ⟨fun _ _ => trivial, ?_⟩⟩
                        · exact .inl (by simp [execOp, evP, valP, Act.eval, List.lookup_cons])
                        · refine .inr ⟨111, #[W32 a, .int .u64 5], ?_, (callsIn_wide.2 (left_any _ (a) 5 (by decide) (by decide))).mono ?_⟩
                          · simp [execOp, evP, valP, Act.eval, List.lookup_cons, go_sem]
                          · rintro e w' ⟨rfl, rfl⟩
                            exact ⟨rfl, 0, rfl⟩
                        · exact .inl (by simp [execOp, evP, valP, Act.eval, List.lookup_cons])
                        · exact .inl (by simp [execOp, evP, valP, Act.eval, List.lookup_cons, go_sem, cwt, hti, hti0, b32_add, KADD.out])
                        · exact .inl (by simp [execOp, evP, valP, Act.eval, List.lookup_cons])
                        · exact .inl (by simp [execOp, evP, valP, Act.eval, List.lookup_cons, go_sem, cwt, hti, hti0, b32_add, KADD.out])
                        · exact .inl (by simp [execOp, evP, valP, Act.eval, List.lookup_cons])
                        · exact .inl (by simp [execOp, evP, valP, Act.eval, List.lookup_cons, go_sem, cwt, hti, hti0, b32_add, KADD.out])
                        · exact .inl (by simp [execOp, evP, valP, Act.eval, List.lookup_cons])
                        · exact .inl (by simp [execOp, evP, valP, Act.eval, List.lookup_cons])
                        · exact .inl (by simp [execOp, evP, valP, Act.eval, List.lookup_cons, go_sem, cwt, hti, hti0, b32_add, KADD.out])
                        · exact .inl (by simp [execOp, evP, valP, Act.eval, List.lookup_cons, go_sem, cwt, hti, hti0, b32_add, KADD.out])
                        · exact .inl (by simp [execOp, evP, valP, Act.eval, List.lookup_cons, go_sem, cwt, hti, hti0, b32_add, KADD.out])
                        · exact .inl (by simp [execOp, evP, valP, Act.eval, List.lookup_cons])
                      case end281 =>
                        intro q
                        simp [wrote, valP, Act.put, List.lookup_cons]
                        obtain ⟨w6, hw6⟩ : ∃ V, wr.drewN q = V := ⟨_, rfl⟩
                        rw [hw6]
                        have HBw6 := Lib.hid (show Below wp.heap.size wp w6 by rw [← hw6]; exact below_drewN HBV.out _)
                        clear hw6
                        go_wp2_with fail
                        refine (left_any _ b 30 (by decide) (by decide)).mono ?_
                        rintro e' w' ⟨rfl, rfl⟩
                        go_wp2
                        go_round
                        case rel => exact ⟨t + 1, _, _, _, _, _, by omega, rfl, rfl, rfl, rfl, rfl, by go_num, Lib.hid HNEXT.out, Lib.hid HBw6.out⟩
                        case measure => simp [intOf]; omega
                    · have q3 : t / 20 = 0 := by omega
                      have hfe : (b &&& c) ||| (~~~b &&& d) = f := by rw [← hf, bendR, q3] <;> rfl
                      have hke : kk = 0x5a827999 := by rw [← hkk, numR, q3] <;> rfl
                      have kadd : ∀ z : BitVec 32, IntKind.u32.wrap (i32 z + 1518500249) = i32 (z + kk) := fun z => by rw [hke, ← b32_add, c32_1]
                      have g60 : ¬ (60 : Int) ≤ t := by omega
                      have g40 : ¬ (40 : Int) ≤ t := by omega
                      have g20 : ¬ (20 : Int) ≤ t := by omega
                      have a1 : bits .and .u32 (i32 b) (i32 c) = i32 (b &&& c) := b32_and b c
                      have a0 : IntKind.u32.signed = false := rfl
                      have a2 : bits .xor .u32 IntKind.u32.max (i32 b) = i32 (~~~b) := b32_not b
                      have a3 : bits .and .u32 (i32 (~~~b)) (i32 d) = i32 (~~~b &&& d) := b32_and _ d
                      have a4 : bits .or .u32 (i32 (b &&& c)) (i32 (~~~b &&& d)) = i32 f := by rw [b32_or, hfe]
                      have KADD := Lib.hid kadd
                      clear hf hkk hke q3 hfe kadd
                      go_wp2_with fail
                      refine (wpIn_wide (n := 9)).1 (wpIn_region_pure0 rfl hmx [(123, W32 a), (124, W32 (rl32 5 a)), (125, W32 f), (126, W32 ((rl32 5 a) + f)), (127, W32 e), (128, W32 (((rl32 5 a) + f) + e)), (129, .int .u32 1518500249), (130, W32 ((((rl32 5 a) + f) + e) + kk)), (131, .slice (some ⟨gw, 0, none⟩) 80 80), (132, .int .i64 (t : Int)), (133, .pointer (some ⟨gw, t, none⟩)), (134, W32 wt), (135, W32 (((((rl32 5 a) + f) + e) + kk) + wt)), (15, W32 (((((rl32 5 a) + f) + e) + kk) + wt))] (by kernel_rfl) (by kernel_rfl) (by kernel_rfl) (by kernel_rfl) (by first | rfl | simp) ?ops280 ?end280)
                      case ops280 =>
                        intro i o hi ho
                        have hi3 : i < 14 := hi
                        have hi2 : i = 0 ∨ i = 1 ∨ i = 2 ∨ i = 3 ∨ i = 4 ∨ i = 5 ∨ i = 6 ∨ i = 7 ∨ i = 8 ∨ i = 9 ∨ i = 10 ∨ i = 11 ∨ i = 12 ∨ i = 13 := by omega
                        rcases hi2 with rfl | rfl | rfl | rfl | rfl | rfl | rfl | rfl | rfl | rfl | rfl | rfl | rfl | rfl
                        all_goals
                          have ho' := ho
                          simp only [List.getElem?_toArray, List.getElem?_cons_zero, List.getElem?_cons_succ, Option.some.injEq] at ho'
                          subst ho'
                          refine ⟨(by intro c h; cases h), fun q => ⟨fun _ _ => trivial, ?_⟩⟩
                        · exact .inl (by simp [execOp, evP, valP, Act.eval, List.lookup_cons])
                        · refine .inr ⟨111, #[W32 a, .int .u64 5], ?_, (callsIn_wide.2 (left_any _ (a) 5 (by decide) (by decide))).mono ?_⟩
                          · simp [execOp, evP, valP, Act.eval, List.lookup_cons, go_sem]
                          · rintro e w' ⟨rfl, rfl⟩
                            exact ⟨rfl, 0, rfl⟩
                        · exact .inl (by simp [execOp, evP, valP, Act.eval, List.lookup_cons])
                        · exact .inl (by simp [execOp, evP, valP, Act.eval, List.lookup_cons, go_sem, cwt, hti, hti0, b32_add, KADD.out])
                        · exact .inl (by simp [execOp, evP, valP, Act.eval, List.lookup_cons])
                        · exact .inl (by simp [execOp, evP, valP, Act.eval, List.lookup_cons, go_sem, cwt, hti, hti0, b32_add, KADD.out])
                        · exact .inl (by simp [execOp, evP, valP, Act.eval, List.lookup_cons])
                        · exact .inl (by simp [execOp, evP, valP, Act.eval, List.lookup_cons, go_sem, cwt, hti, hti0, b32_add, KADD.out])
                        · exact .inl (by simp [execOp, evP, valP, Act.eval, List.lookup_cons])
                        · exact .inl (by simp [execOp, evP, valP, Act.eval, List.lookup_cons])
                        · exact .inl (by simp [execOp, evP, valP, Act.eval, List.lookup_cons, go_sem, cwt, hti, hti0, b32_add, KADD.out])
                        · exact .inl (by simp [execOp, evP, valP, Act.eval, List.lookup_cons, go_sem, cwt, hti, hti0, b32_add, KADD.out])
                        · exact .inl (by simp [execOp, evP, valP, Act.eval, List.lookup_cons, go_sem, cwt, hti, hti0, b32_add, KADD.out])
                        · exact .inl (by simp [execOp, evP, valP, Act.eval, List.lookup_cons])
                      case end280 =>
                        intro q
                        simp [wrote, valP, Act.put, List.lookup_cons]
                        obtain ⟨w6, hw6⟩ : ∃ V, wr.drewN q = V := ⟨_, rfl⟩
                        rw [hw6]
                        have HBw6 := Lib.hid (show Below wp.heap.size wp w6 by rw [← hw6]; exact below_drewN HBV.out _)
                        clear hw6
                        go_wp2_with fail
                        refine (left_any _ b 30 (by decide) (by decide)).mono ?_
                        rintro e' w' ⟨rfl, rfl⟩
                        go_wp2
                        go_round
                        case rel => exact ⟨t + 1, _, _, _, _, _, by omega, rfl, rfl, rfl, rfl, rfl, by go_num, Lib.hid HNEXT.out, Lib.hid HBw6.out⟩
                        case measure => simp [intOf]; omega
              · obtain rfl : t = 80 := by omega
                rw [show ((80 : Nat) : Int) = 80 from rfl]
                obtain ⟨wq, rfl⟩ : ∃ V, V = wr := ⟨_, rfl⟩
                have hq := HRH.out.later HBV.out
                have d0 : wq.cell? ⟨gh, 0, none⟩ = some (W32 s0) := hq.at_ rfl
                have d1 : wq.cell? ⟨gh, 1, none⟩ = some (W32 s1) := hq.at_ rfl
                have d2 : wq.cell? ⟨gh, 2, none⟩ = some (W32 s2) := hq.at_ rfl
                have d3 : wq.cell? ⟨gh, 3, none⟩ = some (W32 s3) := hq.at_ rfl
                have d4 : wq.cell? ⟨gh, 4, none⟩ = some (W32 s4) := hq.at_ rfl
                have f0 := hq.frozen 0
                have f1 := hq.frozen 1
                have f2 := hq.frozen 2
                have f3 := hq.frozen 3
                have f4 := hq.frozen 4
                have hnr := ((((hq.set 0 (W32 (s0 + a))).set 1 (W32 (s1 + b))).set 2 (W32 (s2 + c))).set 3 (W32 (s3 + d))).set 4 (W32 (s4 + e))
                have hno := (((((OnlyV.refl wq gh).set 0 (W32 (s0 + a))).set 1 (W32 (s1 + b))).set 2 (W32 (s2 + c))).set 3 (W32 (s3 + d))).set 4 (W32 (s4 + e))
                have hch : ch1 xs ms (i + 1) = [s0 + a, s1 + b, s2 + c, s3 + d, s4 + e] := by
                  rw [ch1, HBI.out, HWS.out, HHC.out, show H1.ofL [s0, s1, s2, s3, s4] = ⟨s0, s1, s2, s3, s4⟩ from rfl, HSS.out, HST.out]
                  rfl
                have hwr := ((OnlyV.of_below (a := wo) (w := wp) (by rw [HGW.out]; exact HBALL.out) gh).trans (OnlyV.of_below (a := wp) (w := wq) HBV.out gh)).trans hno
                have hall := HOV.out.trans hwr
                have hsm := HS.out.onlyN hwr (by omega) HOV.out.size
                have HNR := Lib.hid hnr
                have HCH := Lib.hid hch
                have HALL := Lib.hid hall
                have HSMM := Lib.hid hsm
                have hcapZ := HS.out.cap
                clear hq hnr hno hch hwr hall hsm
                by_cases hc64 : c' = 64
                · obtain rfl : Z = 64 := by omega
                  subst hc64
                  go_wp2
                  simp only [b32_add']
                  go_roundw
                  case rel =>
                    have hz0 : 64 * (N - (i + 1)) = 0 := by have := HZ.out; omega
                    refine ⟨i + 1, off, 0, by omega, by rw [hz0], ?_, ?_, ?_⟩
                    · rw [hz0, List.drop_eq_nil_of_le (by rw [HML.out]; have := HZ.out; omega)]
                      exact Lib.hid (SlV.nil _ _ _ (by decide))
                    · rw [HCH.out]; exact Lib.hid HNR.out
                    · exact Lib.hid HALL.out
                  case measure => simp
                · have hc64' : ¬ (c' : Int) = 64 := by omega
                  go_wp2
                  simp only [b32_add']
                  go_roundw
                  case rel =>
                    have hz0 : 64 * (N - (i + 1)) = Z - 64 := by have := HZ.out; omega
                    refine ⟨i + 1, off + 64, c' - 64, by omega, by rw [hz0], ?_, ?_, ?_⟩
                    · have := HSMM.out.drop (k := 64) (by omega)
                      rw [← List.map_drop, ← HBI.out, List.drop_drop] at this
                      rw [hz0]
                      exact Lib.hid this
                    · rw [HCH.out]; exact Lib.hid HNR.out
                    · exact Lib.hid HALL.out
                  case measure => (try simp); omega
    · obtain rfl : i = N := by omega
      have hz0 : 64 * (i - i) = 0 := by omega
      rw [hz0]
      obtain ⟨fs, hfs⟩ : ∃ fs, ch1 xs ms i = fs := ⟨_, rfl⟩
      have hfl : fs.length = 5 := by rw [← hfs]; exact HC5.out i
      rw [hfs] at HR
      have hsl : SlV wo wo.heap.size (some ⟨gh, 0, none⟩) 5 5 (fs.map W32) := by
        have := HR.out.sl (by simp; omega)
        simpa [hfl] using this
      have hwd := words_any wo wo.heap.size (some ⟨gh, 0, none⟩) 5 5 fs hsl (Nat.le_refl _) (by decide)
      have HWD := Lib.hid hwd
      have HFS := Lib.hid hfs
      have hw2 := HOV.out.size
      clear hsl hwd hfs
      go_wp2_with fail
      refine HWD.out.mono ?_
      rintro e w9 ⟨v9, rfl, ho9, b9⟩
      have HO9 := Lib.hid ho9
      have HB9 := Lib.hid b9
      clear ho9 b9
      go_wp2
      go_ret
      refine ⟨v9, rfl, ?_, (HB2.out.trans (HOV.out.below (Nat.le_refl gh) (by omega))).trans (HB9.out.mono (by omega))⟩
      rw [HFS.out]
      exact own_base HO9.out (by omega)
end Go.Proofs.YtnpaidieijlkkaaDoor

/- Bytes that a call hands back in memory of its own. -/
set_option linter.unusedVariables false
set_option linter.unusedSimpArgs false
namespace Go.Proofs.YtnpaidieijlkkaaDoor
open Go.RowKit Go.Shelf

/-- a whole block, as the caller's own -/
theorem row_own {t : TypeId} {w : World} {g base : Nat} {vs : List Value} (h : RowV t w g vs) (hb : base ≤ g) (hm : vs.length ≤ 17592186044416) : w.ownsRow base t 1 (.slice (some ⟨g, 0, none⟩) vs.length vs.length) vs.length vs :=
  ⟨by simp, .inr ⟨g, vs.length, vs.toArray, rfl, hb, h, Nat.le_refl _, Nat.le_trans hm (by decide), by simp, by simp⟩⟩
/-- bytes that a call hands back in memory of its own -/
def FreshV (w : World) (B : Nat) (v : Value) (l : List (BitVec 8)) : Prop := ∃ A c, v = .slice A l.length c ∧ SlV w w.heap.size A l.length c (l.map W8) ∧ (A = none → c = 0) ∧ ∀ a, A = some a → B ≤ a.block
theorem FreshV.of_own {w : World} {B n : Nat} {v : Value} {l : List (BitVec 8)} (h : w.ownsRow B 5 1 v n (l.map W8)) : FreshV w B v l := by
  obtain ⟨A, c, rfl, h1, h2, h3⟩ := SlV.of_own' h
  obtain rfl : n = l.length := by simpa using h1.len
  exact ⟨A, c, rfl, h1, h3, fun a e => h2 a.block a.off a.spot e⟩
theorem FreshV.take_ {w : World} {B n c : Nat} {A : Option Addr} {l l' : List (BitVec 8)} (h : SlV w w.heap.size A n c (l.map W8)) (hz : A = none → c = 0) (hB : ∀ a, A = some a → B ≤ a.block) (k : Nat) (hk : k ≤ n) (hl : l.take k = l') : FreshV w B (.slice A k c) l' := by
  have hn : n = l.length := by simpa using h.len
  have h2 := h.take (k := k) hk
  rw [← List.map_take, hl] at h2
  obtain rfl : k = l'.length := by rw [← hl, List.length_take]; omega
  exact ⟨A, c, rfl, h2, hz, hB⟩
theorem own_sum {w : World} {B n : Nat} {v : Value} {l : List (BitVec 8)} (h : w.ownsRow B 5 1 v n (l.map W8)) (m : List (BitVec 8)) (hm : m = l.take n) : FreshV w B v m := by
  have hl : n = l.length := by obtain ⟨A, c, _, h1, _⟩ := SlV.of_own' h; simpa using h1.len
  have : m = l := by rw [hm, List.take_of_length_le (by omega)]
  subst this
  exact FreshV.of_own h
theorem FreshV.sl {w : World} {B : Nat} {v : Value} {l : List (BitVec 8)} (h : FreshV w B v l) : ∃ A c, v = .slice A l.length c ∧ SlV w w.heap.size A l.length c (l.map W8) ∧ (A = none → c = 0) := by
  obtain ⟨A, c, e, h1, h2, _⟩ := h
  exact ⟨A, c, e, h1, h2⟩
theorem FreshV.mono_ {w : World} {B B' : Nat} {v : Value} {l : List (BitVec 8)} (h : FreshV w B v l) (hb : B' ≤ B) : FreshV w B' v l := by
  obtain ⟨A, c, e, h1, h2, h3⟩ := h
  exact ⟨A, c, e, h1, h2, fun a ha => Nat.le_trans hb (h3 a ha)⟩
end Go.Proofs.YtnpaidieijlkkaaDoor

/- baileyref3: Size, Block, Of. -/
set_option linter.unusedVariables false
set_option linter.unusedSimpArgs false
namespace Go.Proofs.YtnpaidieijlkkaaDoor
open Go.RowKit Go.Shelf
set_option maxHeartbeats 800000 in
theorem rsize_any (w : World) (k : Int) : Calls Tryd.prog 45 #[.int .i64 k] w fun e w' => e = .returned (.int .i64 (sizeV k)) ∧ w = w' := by
  by_cases h1 : k = 1
  · subst h1
    go_enter Tryd.func45, Tryd.ntmps45
    go_wp2
    go_ret
    exact ⟨rfl, rfl⟩
  by_cases h2 : k = 2
  · subst h2
    go_enter Tryd.func45, Tryd.ntmps45
    go_wp2
    go_ret
    exact ⟨rfl, rfl⟩
  by_cases h3 : k = 3
  · subst h3
    go_enter Tryd.func45, Tryd.ntmps45
    go_wp2
    go_ret
    exact ⟨rfl, rfl⟩
  by_cases h4 : k = 4
  · subst h4
    go_enter Tryd.func45, Tryd.ntmps45
    go_wp2
    go_ret
    exact ⟨rfl, rfl⟩
  by_cases h5 : k = 5
  · subst h5
    go_enter Tryd.func45, Tryd.ntmps45
    go_wp2
    go_ret
    exact ⟨rfl, rfl⟩
  go_enter Tryd.func45, Tryd.ntmps45
  go_wp2
  go_ret
  exact ⟨by simp [sizeV, h1, h2, h3, h4, h5], rfl⟩
set_option maxHeartbeats 800000 in
theorem rblock_any (w : World) (k : Int) : Calls Tryd.prog 98 #[.int .i64 k] w fun e w' => e = .returned (.int .i64 (blockV k)) ∧ w = w' := by
  by_cases h1 : k = 1
  · subst h1
    go_enter Tryd.func98, Tryd.ntmps98
    go_wp2
    go_ret
    exact ⟨rfl, rfl⟩
  by_cases h2 : k = 2
  · subst h2
    go_enter Tryd.func98, Tryd.ntmps98
    go_wp2
    go_ret
    exact ⟨rfl, rfl⟩
  by_cases h3 : k = 3
  · subst h3
    go_enter Tryd.func98, Tryd.ntmps98
    go_wp2
    go_ret
    exact ⟨rfl, rfl⟩
  by_cases h4 : k = 4
  · subst h4
    go_enter Tryd.func98, Tryd.ntmps98
    go_wp2
    go_ret
    exact ⟨rfl, rfl⟩
  by_cases h5 : k = 5
  · subst h5
    go_enter Tryd.func98, Tryd.ntmps98
    go_wp2
    go_ret
    exact ⟨rfl, rfl⟩
  go_enter Tryd.func98, Tryd.ntmps98
  go_wp2
  go_ret
  exact ⟨by simp [blockV, h1, h2, h3, h4, h5], rfl⟩
set_option maxRecDepth 100000 in
set_option maxHeartbeats 2000000 in
theorem rof_1 (w : World) (B : Nat) (A : Option Addr) (n c : Nat) (bs : List (BitVec 8)) (hs : SlV w B A n c (bs.map W8)) (hz : A = none → c = 0) (hB : B ≤ w.heap.size) (hn : n ≤ 1000000000) :
    Calls Tryd.prog 56 #[.int .i64 1, .slice A n c] w fun e w' => ∃ v, e = .returned v ∧ FreshV w' w.heap.size v (sumL 1 bs) ∧ Below w.heap.size w w' := by
  obtain ⟨N, hN, _, _⟩ := padN_64 n
  have hl : n = bs.length := by simpa using hs.len
  have hsum := sum_one bs N (by rw [← hl]; exact hN)
  have hc := rsha1_any w B A n c bs hs hz hB hn
  rw [hN, show 64 * N / 64 = N by omega, hl, ← hsum, ← hl] at hc
  have HC := Lib.hid hc
  clear hc hs hsum hN hl
  go_enter Tryd.func56, Tryd.ntmps56
  go_wp2_with fail
  refine HC.out.mono ?_
  rintro e w1 ⟨v, rfl, ho, b1⟩
  have HO := Lib.hid ho
  have HB1 := Lib.hid b1
  clear ho b1
  go_wp2
  go_ret
  exact ⟨v, rfl, FreshV.of_own HO.out, HB1.out⟩
set_option maxRecDepth 100000 in
set_option maxHeartbeats 2000000 in
theorem rof_2 (w : World) (B : Nat) (A : Option Addr) (n c : Nat) (bs : List (BitVec 8)) (hs : SlV w B A n c (bs.map W8)) (hz : A = none → c = 0) (hB : B ≤ w.heap.size) (hn : n ≤ 1000000000) :
    Calls Tryd.prog 56 #[.int .i64 2, .slice A n c] w fun e w' => ∃ v, e = .returned v ∧ FreshV w' w.heap.size v (sumL 2 bs) ∧ Below w.heap.size w w' := by
  obtain ⟨N, hN, _, _⟩ := padN_64 n
  have hl : n = bs.length := by simpa using hs.len
  have hsum := sum_low 2 (by decide) bs N (by rw [← hl]; exact hN)
  obtain ⟨W1, e1, r1, b1, z1⟩ := newV w 102 ((lowL (startsL 2)).map W32) #[.int .u32 3238371032, .int .u32 914150663, .int .u32 812702999, .int .u32 4144912697, .int .u32 4290775857, .int .u32 1750603025, .int .u32 1694076839, .int .u32 3204075428] (by kernel_rfl)
  have hc := rsha256_any W1 B A n c bs (hs.below (b1.mono hB)) hz (Nat.le_trans hB b1.size) hn w.heap.size (lowL (startsL 2)) rfl r1
  rw [hN, show 64 * N / 64 = N by omega] at hc
  rw [show szN 2 = 28 from rfl, ← hl] at hsum
  obtain ⟨ds, hds⟩ : ∃ l, wordsL (ch32 (lowL (startsL 2)) (bs ++ padL n 64) N) = l := ⟨_, rfl⟩
  rw [hds] at hc hsum
  obtain ⟨g0, hg0⟩ : ∃ g, w.heap.size = g := ⟨_, rfl⟩
  rw [hg0] at hc b1 ⊢
  have HC := Lib.hid hc
  have HB1 := Lib.hid b1
  have HSUM := Lib.hid hsum
  have hz1 : W1.heap.size = g0 + 1 := by omega
  have HZ1 := Lib.hid hz1
  have HG0 := Lib.hid hg0
  clear hc b1 hsum hs hN hds r1 z1 hz1 hB hg0 hl
  go_enter Tryd.func56, Tryd.ntmps56
  go_wp2_with fail
  rw [HG0.out]
  refine HC.out.mono ?_
  rintro e w2 ⟨v, rfl, ho, hoc⟩
  have HB2 := Lib.hid (HB1.out.trans (hoc.below (Nat.le_refl g0) (by have := HZ1.out; omega)))
  obtain ⟨g, cc, rfl, hbg, hsl⟩ := own_form0 ho (by decide)
  have hcap := hsl.cap
  have hmx := hsl.max
  have kc1 : (28 : Int) ≤ cc := by omega
  have kc2 : (cc : Int) ≤ 9223372036854775807 := by omega
  have hbg2 : g0 ≤ g := by have := HZ1.out; omega
  have HO := Lib.hid hsl
  clear ho hoc hsl
  go_wp2
  go_ret
  exact ⟨_, rfl, FreshV.take_ HO.out (by intro h; cases h) (by intro a e; injection e with e; subst e; exact hbg2) 28 (by decide) HSUM.out.symm, HB2.out⟩
set_option maxRecDepth 100000 in
set_option maxHeartbeats 2000000 in
theorem rof_3 (w : World) (B : Nat) (A : Option Addr) (n c : Nat) (bs : List (BitVec 8)) (hs : SlV w B A n c (bs.map W8)) (hz : A = none → c = 0) (hB : B ≤ w.heap.size) (hn : n ≤ 1000000000) :
    Calls Tryd.prog 56 #[.int .i64 3, .slice A n c] w fun e w' => ∃ v, e = .returned v ∧ FreshV w' w.heap.size v (sumL 3 bs) ∧ Below w.heap.size w w' := by
  obtain ⟨N, hN, _, _⟩ := padN_64 n
  have hl : n = bs.length := by simpa using hs.len
  have hsum := sum_low 3 (by decide) bs N (by rw [← hl]; exact hN)
  obtain ⟨W1, e1, r1, b1, z1⟩ := newV w 102 ((lowL (startsL 3)).map W32) #[.int .u32 1779033703, .int .u32 3144134277, .int .u32 1013904242, .int .u32 2773480762, .int .u32 1359893119, .int .u32 2600822924, .int .u32 528734635, .int .u32 1541459225] (by kernel_rfl)
  have hc := rsha256_any W1 B A n c bs (hs.below (b1.mono hB)) hz (Nat.le_trans hB b1.size) hn w.heap.size (lowL (startsL 3)) rfl r1
  rw [hN, show 64 * N / 64 = N by omega] at hc
  rw [show szN 3 = 32 from rfl, ← hl] at hsum
  obtain ⟨ds, hds⟩ : ∃ l, wordsL (ch32 (lowL (startsL 3)) (bs ++ padL n 64) N) = l := ⟨_, rfl⟩
  rw [hds] at hc hsum
  obtain ⟨g0, hg0⟩ : ∃ g, w.heap.size = g := ⟨_, rfl⟩
  rw [hg0] at hc b1 ⊢
  have HC := Lib.hid hc
  have HB1 := Lib.hid b1
  have HSUM := Lib.hid hsum
  have hz1 : W1.heap.size = g0 + 1 := by omega
  have HZ1 := Lib.hid hz1
  have HG0 := Lib.hid hg0
  clear hc b1 hsum hs hN hds r1 z1 hz1 hB hg0 hl
  go_enter Tryd.func56, Tryd.ntmps56
  go_wp2_with fail
  rw [HG0.out]
  refine HC.out.mono ?_
  rintro e w2 ⟨v, rfl, ho, hoc⟩
  have HB2 := Lib.hid (HB1.out.trans (hoc.below (Nat.le_refl g0) (by have := HZ1.out; omega)))
  have HO := Lib.hid ho
  clear ho hoc
  go_wp2
  go_ret
  exact ⟨v, rfl, own_sum (own_base HO.out (by have := HZ1.out; omega)) _ HSUM.out, HB2.out⟩
set_option maxRecDepth 100000 in
set_option maxHeartbeats 2000000 in
theorem rof_4 (w : World) (B : Nat) (A : Option Addr) (n c : Nat) (bs : List (BitVec 8)) (hs : SlV w B A n c (bs.map W8)) (hz : A = none → c = 0) (hB : B ≤ w.heap.size) (hn : n ≤ 1000000000) :
    Calls Tryd.prog 56 #[.int .i64 4, .slice A n c] w fun e w' => ∃ v, e = .returned v ∧ FreshV w' w.heap.size v (sumL 4 bs) ∧ Below w.heap.size w w' := by
  obtain ⟨N, hN, _, _⟩ := padN_128 n
  have hl : n = bs.length := by simpa using hs.len
  have hsum := sum64 4 (by decide) bs N (by rw [← hl]; exact hN)
  obtain ⟨W1, e1, r1, b1, z1⟩ := newV w 59 ((startsL 4).map W64) #[.int .u64 14680500436340154072, .int .u64 7105036623409894663, .int .u64 10473403895298186519, .int .u64 1526699215303891257, .int .u64 7436329637833083697, .int .u64 10282925794625328401, .int .u64 15784041429090275239, .int .u64 5167115440072839076] (by kernel_rfl)
  have hc := rsha512_any W1 B A n c bs (hs.below (b1.mono hB)) hz (Nat.le_trans hB b1.size) hn w.heap.size (startsL 4) rfl r1
  rw [hN, show 128 * N / 128 = N by omega] at hc
  rw [show szN 4 = 48 from rfl, ← hl] at hsum
  obtain ⟨ds, hds⟩ : ∃ l, wordsL64 (ch64 (startsL 4) (bs ++ padL n 128) N) = l := ⟨_, rfl⟩
  rw [hds] at hc hsum
  obtain ⟨g0, hg0⟩ : ∃ g, w.heap.size = g := ⟨_, rfl⟩
  rw [hg0] at hc b1 ⊢
  have HC := Lib.hid hc
  have HB1 := Lib.hid b1
  have HSUM := Lib.hid hsum
  have hz1 : W1.heap.size = g0 + 1 := by omega
  have HZ1 := Lib.hid hz1
  have HG0 := Lib.hid hg0
  clear hc b1 hsum hs hN hds r1 z1 hz1 hB hg0 hl
  go_enter Tryd.func56, Tryd.ntmps56
  go_wp2_with fail
  rw [HG0.out]
  refine HC.out.mono ?_
  rintro e w2 ⟨v, rfl, ho, hoc⟩
  have HB2 := Lib.hid (HB1.out.trans (hoc.below (Nat.le_refl g0) (by have := HZ1.out; omega)))
  obtain ⟨g, cc, rfl, hbg, hsl⟩ := own_form0 ho (by decide)
  have hcap := hsl.cap
  have hmx := hsl.max
  have kc1 : (48 : Int) ≤ cc := by omega
  have kc2 : (cc : Int) ≤ 9223372036854775807 := by omega
  have hbg2 : g0 ≤ g := by have := HZ1.out; omega
  have HO := Lib.hid hsl
  clear ho hoc hsl
  go_wp2
  go_ret
  exact ⟨_, rfl, FreshV.take_ HO.out (by intro h; cases h) (by intro a e; injection e with e; subst e; exact hbg2) 48 (by decide) HSUM.out.symm, HB2.out⟩
set_option maxRecDepth 100000 in
set_option maxHeartbeats 2000000 in
theorem rof_5 (w : World) (B : Nat) (A : Option Addr) (n c : Nat) (bs : List (BitVec 8)) (hs : SlV w B A n c (bs.map W8)) (hz : A = none → c = 0) (hB : B ≤ w.heap.size) (hn : n ≤ 1000000000) :
    Calls Tryd.prog 56 #[.int .i64 5, .slice A n c] w fun e w' => ∃ v, e = .returned v ∧ FreshV w' w.heap.size v (sumL 5 bs) ∧ Below w.heap.size w w' := by
  obtain ⟨N, hN, _, _⟩ := padN_128 n
  have hl : n = bs.length := by simpa using hs.len
  have hsum := sum64 5 (by decide) bs N (by rw [← hl]; exact hN)
  obtain ⟨W1, e1, r1, b1, z1⟩ := newV w 59 ((startsL 5).map W64) #[.int .u64 7640891576956012808, .int .u64 13503953896175478587, .int .u64 4354685564936845355, .int .u64 11912009170470909681, .int .u64 5840696475078001361, .int .u64 11170449401992604703, .int .u64 2270897969802886507, .int .u64 6620516959819538809] (by kernel_rfl)
  have hc := rsha512_any W1 B A n c bs (hs.below (b1.mono hB)) hz (Nat.le_trans hB b1.size) hn w.heap.size (startsL 5) rfl r1
  rw [hN, show 128 * N / 128 = N by omega] at hc
  rw [show szN 5 = 64 from rfl, ← hl] at hsum
  obtain ⟨ds, hds⟩ : ∃ l, wordsL64 (ch64 (startsL 5) (bs ++ padL n 128) N) = l := ⟨_, rfl⟩
  rw [hds] at hc hsum
  obtain ⟨g0, hg0⟩ : ∃ g, w.heap.size = g := ⟨_, rfl⟩
  rw [hg0] at hc b1 ⊢
  have HC := Lib.hid hc
  have HB1 := Lib.hid b1
  have HSUM := Lib.hid hsum
  have hz1 : W1.heap.size = g0 + 1 := by omega
  have HZ1 := Lib.hid hz1
  have HG0 := Lib.hid hg0
  clear hc b1 hsum hs hN hds r1 z1 hz1 hB hg0 hl
  go_enter Tryd.func56, Tryd.ntmps56
  go_wp2_with fail
  rw [HG0.out]
  refine HC.out.mono ?_
  rintro e w2 ⟨v, rfl, ho, hoc⟩
  have HB2 := Lib.hid (HB1.out.trans (hoc.below (Nat.le_refl g0) (by have := HZ1.out; omega)))
  have HO := Lib.hid ho
  clear ho hoc
  go_wp2
  go_ret
  exact ⟨v, rfl, own_sum (own_base HO.out (by have := HZ1.out; omega)) _ HSUM.out, HB2.out⟩
theorem rof_any (w : World) (k : Int) (hk : KindOk k) (B : Nat) (A : Option Addr) (n c : Nat) (bs : List (BitVec 8)) (hs : SlV w B A n c (bs.map W8)) (hz : A = none → c = 0) (hB : B ≤ w.heap.size) (hn : n ≤ 1000000000) :
    Calls Tryd.prog 56 #[.int .i64 k, .slice A n c] w fun e w' => ∃ v, e = .returned v ∧ FreshV w' w.heap.size v (sumL k bs) ∧ Below w.heap.size w w' := by
  rcases hk.cases with rfl | rfl | rfl | rfl | rfl
  · exact rof_1 w B A n c bs hs hz hB hn
  · exact rof_2 w B A n c bs hs hz hB hn
  · exact rof_3 w B A n c bs hs hz hB hn
  · exact rof_4 w B A n c bs hs hz hB hn
  · exact rof_5 w B A n c bs hs hz hB hn
set_option maxRecDepth 100000 in
set_option maxHeartbeats 1000000 in
theorem rof_no (w : World) (k : Int) (hk : ¬ KindOk k) (A : Option Addr) (n c : Nat) :
    Calls Tryd.prog 56 #[.int .i64 k, .slice A n c] w fun e w' => e = .returned (.slice none 0 0) ∧ w = w' := by
  have h1 : ¬ k = 1 := fun e => hk (by subst e; unfold KindOk; omega)
  have h2 : ¬ k = 2 := fun e => hk (by subst e; unfold KindOk; omega)
  have h3 : ¬ k = 3 := fun e => hk (by subst e; unfold KindOk; omega)
  have h4 : ¬ k = 4 := fun e => hk (by subst e; unfold KindOk; omega)
  have h5 : ¬ k = 5 := fun e => hk (by subst e; unfold KindOk; omega)
  clear hk
  go_enter Tryd.func56, Tryd.ntmps56
  go_wp2
  go_ret
  exact ⟨rfl, rfl⟩
end Go.Proofs.YtnpaidieijlkkaaDoor

/- baileyref3: four, Join, HMAC. -/
set_option linter.unusedVariables false
set_option linter.unusedSimpArgs false
namespace Go.Proofs.YtnpaidieijlkkaaDoor
open Go.RowKit Go.Shelf

set_option maxRecDepth 100000 in
set_option maxHeartbeats 1000000 in
theorem rfour_any (w : World) (i : Nat) (hi : i < 9223372036854775808) :
    Calls Tryd.prog 85 #[.int .i64 (i : Int)] w fun e w' => e = .returned (.slice (some ⟨w.heap.size, 0, none⟩) 4 4) ∧ RowV 5 w' w.heap.size ((counterL i).map W8) ∧ Below w.heap.size w w' := by
  obtain ⟨W1, e1, r1, b1, z1⟩ := newV w 5 ((counterL i).map W8) #[W8 (byteAt i 3), W8 (byteAt i 2), W8 (byteAt i 1), W8 (byteAt i 0)] rfl
  obtain ⟨q3, h3⟩ : ∃ q, i / 256 ^ 3 = q := ⟨_, rfl⟩
  obtain ⟨q2, h2⟩ : ∃ q, i / 256 ^ 2 = q := ⟨_, rfl⟩
  obtain ⟨q1, h1⟩ : ∃ q, i / 256 ^ 1 = q := ⟨_, rfl⟩
  have k3 := i8_byteAt i 3
  have k2 := i8_byteAt i 2
  have k1 := i8_byteAt i 1
  have k0 := i8_byteAt i 0
  rw [h3] at k3
  rw [h2] at k2
  rw [h1] at k1
  rw [Nat.pow_zero, Nat.div_one] at k0
  have j3 : (i : Int) / 16777216 = (q3 : Int) := by omega
  have j2 : (i : Int) / 65536 = (q2 : Int) := by omega
  have j1 : (i : Int) / 256 = (q1 : Int) := by omega
  have l3 : (q3 : Int) ≤ 9223372036854775807 := by omega
  have l2 : (q2 : Int) ≤ 9223372036854775807 := by omega
  have l1 : (q1 : Int) ≤ 9223372036854775807 := by omega
  have l0 : (i : Int) ≤ 9223372036854775807 := by omega
  obtain ⟨g, hg⟩ : ∃ g, w.heap.size = g := ⟨_, rfl⟩
  rw [hg] at r1 b1
  have HR := Lib.hid r1
  have HB := Lib.hid b1
  have HG := Lib.hid hg
  clear h3 h2 h1 r1 b1 z1 hi
  go_enter Tryd.func85, Tryd.ntmps85
  go_wp2
  go_ret
  rw [HG.out]
  first | exact ⟨rfl, HR.out, HB.out⟩ | (rw [e1]; exact ⟨rfl, HR.out, HB.out⟩)
set_option maxRecDepth 100000 in
set_option maxHeartbeats 2000000 in
theorem rjoin_any (w : World) (B : Nat) (A : Option Addr) (n c : Nat) (pss : List (List (BitVec 8))) (hp : PartsV w B A n c pss) (hB : B ≤ w.heap.size) (hn : n ≤ 1000) (hlen : pss.flatten.length ≤ 1000000000) :
    Calls Tryd.prog 59 #[.slice A n c] w fun e w' => ∃ v, e = .returned v ∧ w'.ownsRow w.heap.size 5 1 v pss.flatten.length (pss.flatten.map W8) ∧ Below w.heap.size w w' := by
  have hnl := hp.len
  have own0 : w.ownsRow w.heap.size 5 1 (.slice none 0 0) ((pss.take 0).flatten).length (((pss.take 0).flatten).map W8) := World.ownsRow_nil _ _ _ _
  have hle : ∀ i, ((pss.take i).flatten).length ≤ pss.flatten.length := fun i => by
    have h := congrArg List.length (congrArg List.flatten (List.take_append_drop i pss))
    rw [List.flatten_append, List.length_append] at h
    omega
  have HP := Lib.hid hp
  have HO := Lib.hid own0
  have HLE := Lib.hid hle
  have HNL := Lib.hid hnl
  have kn : (n : Int) ≤ 1000 := by omega
  clear hp own0 hle hnl
  go_enter Tryd.func59, Tryd.ntmps59
  go_wp2
  go_loopw [3, 4] (fun bv iv W => ∃ (i c' : Nat) (A' : Option Addr), i ≤ n ∧ iv = .int .i64 (i : Int) ∧ bv = .slice A' ((pss.take i).flatten).length c' ∧ Hid (W.ownsRow w.heap.size 5 1 (.slice A' ((pss.take i).flatten).length c') ((pss.take i).flatten).length (((pss.take i).flatten).map W8)) ∧ Hid (Below w.heap.size w W)) (fun _ iv _ => n - (intOf iv).toNat)
  case atStart => exact ⟨0, 0, none, Nat.zero_le _, rfl, rfl, Lib.hid HO.out, Lib.hid (Below.refl _ _)⟩
  case round =>
    obtain ⟨i, c', A', hi, rfl, rfl, HOW, HB⟩ := hrel
    by_cases hin : i < n
    · have hii : (i : Int) < n := by omega
      have hi0 : (0 : Int) ≤ i := by omega
      obtain ⟨b, off, ps, Ai, ni, ci, rfl, hb, hps, hc, hs, hz⟩ := (HP.out.below (HB.out.mono hB)).at_ hin
      obtain ⟨m, hm⟩ : ∃ m, ((pss.take i).flatten).length = m := ⟨_, rfl⟩
      have hnx : (pss.take (i + 1)).flatten = (pss.take i).flatten ++ ps := by rw [List.take_add_one, hps]; simp
      have hm1 : ((pss.take (i + 1)).flatten).length = m + ni := by
        rw [hnx, List.length_append, hm]
        have := hs.len
        rw [List.length_map] at this
        omega
      have hmm : m + ni ≤ 1000000000 := by rw [← hm1]; exact Nat.le_trans (HLE.out _) hlen
      rw [hm] at HOW
      rw [hm]
      have HC := Lib.hid hc
      have HS := Lib.hid hs
      have HNX := Lib.hid hnx
      have HM1 := Lib.hid hm1
      have hone := ones8 ps
      have hbw := HB.out.size
      clear hm hs hnx hm1 hps
      have hmm2 : m + ni ≤ 17592186044416 := by omega
      have t1 := HOW.out
      have t2 := HS.out
      go_wp2_with (at_builtin; refine wlv_append Tryd.elem8 rfl _ _ rfl w.heap.size _ m _ rfl t1 Ai ni ci _ rfl hz _ t2 hone hmm2 hbw ?_; intro v5 w5 hown5 hgr5; obtain ⟨A5, c5, rfl⟩ := own_form hown5; have HO5 := Lib.hid hown5; have HB5 := Lib.hid (HB.out.grown hgr5 hbw (fun q hq => (HOW.out.lt q hq).1)); clear hown5 hgr5)
      go_round
      case rel =>
        refine ⟨i + 1, c5, A5, by omega, by go_num, by rw [HM1.out], ?_, Lib.hid HB5.out⟩
        rw [HM1.out, HNX.out, List.map_append]
        exact Lib.hid HO5.out
      case measure => simp [intOf]; omega
    · obtain rfl : i = n := by omega
      have e : pss.take i = pss := List.take_of_length_le (by have := HNL.out; omega)
      rw [e] at HOW ⊢
      go_wp2
      go_ret
      exact ⟨_, rfl, HOW.out, HB.out⟩
end Go.Proofs.YtnpaidieijlkkaaDoor

/- baileyref3: HMAC. -/
set_option linter.unusedVariables false
set_option linter.unusedSimpArgs false
namespace Go.Proofs.YtnpaidieijlkkaaDoor
open Go.RowKit Go.Shelf

theorem padK_get (K : List (BitVec 8)) (bl i : Nat) (h : i < bl) : (padK K bl)[i]? = some (K.getD i 0) := by
  rw [padK]
  by_cases hi : i < K.length
  · rw [List.getElem?_append_left hi, List.getD_eq_getElem?_getD, List.getElem?_eq_getElem hi]; rfl
  · rw [List.getElem?_append_right (by omega), List.getElem?_replicate, if_pos (by omega), List.getD_eq_getElem?_getD, List.getElem?_eq_none (by omega)]; rfl
theorem maskL_get (K : List (BitVec 8)) (x : BitVec 8) (bl i : Nat) (h : i < bl) : (maskL K x bl)[i]? = some (K.getD i 0 ^^^ x) := by
  rw [maskL, List.getElem?_map, padK_get K bl i h]; rfl
/-- a row that is masked up to i -/
structure MaskR (w : World) (g bl i : Nat) (K : List (BitVec 8)) (x : BitVec 8) : Prop where
  row : RowV 5 w g (((maskL K x bl).take i ++ (List.replicate bl 0).drop i).map W8)
  le : K.length ≤ bl
theorem MaskR.put {w : World} {g bl i : Nat} {K : List (BitVec 8)} {x : BitVec 8} (h : MaskR w g bl i K x) (hi : i < bl) : MaskR (w.setCell ⟨g, i, none⟩ (W8 (K.getD i 0 ^^^ x))) g bl (i + 1) K x :=
  ⟨by
    have h2 := h.row.set i (W8 (K.getD i 0 ^^^ x))
    rw [← List.map_set, mid_set _ _ i _ (maskL_get K x bl i hi) (by simp; exact hi)] at h2
    exact h2, h.le⟩
theorem MaskR.cell {w : World} {g bl i : Nat} {K : List (BitVec 8)} {x : BitVec 8} (h : MaskR w g bl i K x) (hi : i < bl) : w.cell? ⟨g, i, none⟩ = some (.int .u8 0) :=
  h.row.at_ (by rw [List.getElem?_map, mid_get _ _ _ (by rw [maskL_length _ _ _ h.le]; omega), List.getElem?_replicate, if_pos hi]; rfl)
theorem MaskR.far {w : World} {g bl i g2 j : Nat} {K : List (BitVec 8)} {x : BitVec 8} {v : Value} (h : MaskR w g bl i K x) (hn : g ≠ g2) : MaskR (w.setCell ⟨g2, j, none⟩ v) g bl i K x :=
  ⟨h.row.only ((OnlyV.refl w g2).set j v) hn, h.le⟩
theorem MaskR.done {w : World} {g bl : Nat} {K : List (BitVec 8)} {x : BitVec 8} (h : MaskR w g bl bl K x) : RowV 5 w g ((maskL K x bl).map W8) := by
  have := h.row
  rwa [List.take_of_length_le (by rw [maskL_length _ _ _ h.le]; exact Nat.le_refl _), List.drop_eq_nil_of_le (by simp), List.append_nil] at this
theorem MaskR.new {w : World} {g bl : Nat} {K : List (BitVec 8)} (x : BitVec 8) (h : RowV 5 w g (List.replicate bl (.int .u8 0))) (hk : K.length ≤ bl) : MaskR w g bl 0 K x :=
  ⟨by have e : W8 0#8 = .int .u8 0 := rfl; simpa [List.map_replicate, e] using h, hk⟩
theorem MaskR.later {w w' : World} {g bl i : Nat} {K : List (BitVec 8)} {x : BitVec 8} (h : MaskR w g bl i K x) (hb : Below w.heap.size w w') : MaskR w' g bl i K x := ⟨h.row.later hb, h.le⟩
theorem xor36 (x : BitVec 8) : bits .xor .u8 (i8 x) 54 = i8 (x ^^^ 0x36) := b8_xor x 0x36
theorem xor5c (x : BitVec 8) : bits .xor .u8 (i8 x) 92 = i8 (x ^^^ 0x5c) := b8_xor x 0x5c
set_option maxRecDepth 100000 in
set_option maxHeartbeats 4000000 in
theorem rhmac_long (w : World) (k : Int) (hk : KindOk k) (B : Nat) (A : Option Addr) (n c : Nat) (key : List (BitVec 8)) (hs : SlV w B A n c (key.map W8)) (hz : A = none → c = 0) (hB : B ≤ w.heap.size) (hn : n ≤ 1000000)
    (A2 : Option Addr) (n2 c2 : Nat) (msg : List (BitVec 8)) (hs2 : SlV w B A2 n2 c2 (msg.map W8)) (hz2 : A2 = none → c2 = 0) (hn2 : n2 ≤ 1000000) (hc : blN k < key.length) :
    Calls Tryd.prog 70 #[.int .i64 k, .slice A n c, .slice A2 n2 c2] w fun e w' => ∃ v, e = .returned v ∧ FreshV w' w.heap.size v (hmacL k key msg) ∧ Below w.heap.size w w' := by
  have hl : n = key.length := by simpa using hs.len
  have hl2 : n2 = msg.length := by simpa using hs2.len
  obtain ⟨bl, hbl⟩ : ∃ b, blN k = b := ⟨_, rfl⟩
  have hb2 : bl = 64 ∨ bl = 128 := by rw [← hbl]; exact blN_two k
  have kb1 : (64 : Int) ≤ bl := by omega
  have kb2 : (bl : Int) ≤ 128 := by omega
  have hblk := rblock_any w k
  rw [blN_eq hk, hbl] at hblk
  have HBLK := Lib.hid hblk
  obtain ⟨K, hK⟩ : ∃ K, key0 k key = K := ⟨_, rfl⟩
  have hKl : K.length ≤ bl := by rw [← hK, ← hbl]; exact key0_le hk key
  have hHM : hmacL k key msg = sumL k (maskL K 0x5c bl ++ sumL k (maskL K 0x36 bl ++ msg)) := by rw [hmacL, outerL, innerL, hK, hbl]
  have HHM := Lib.hid hHM
  have HK := Lib.hid hk
  have HS2 := Lib.hid hs2
  have HL2 := Lib.hid hl2
  have hof := rof_any w k hk B A n c key hs hz hB (by omega)
  have hKe : sumL k key = K := by rw [← hK, key0, if_pos hc]
  rw [hKe] at hof
  have HOF := Lib.hid hof
  have knb : (bl : Int) < n := by omega
  clear hof hKe hblk hHM hK hk hs hs2 hl hl2 hc
  go_enter Tryd.func70, Tryd.ntmps70
  go_wp2_with fail
  refine HBLK.out.mono ?_
  rintro e w' ⟨rfl, rfl⟩
  go_wp2_with fail
  refine HOF.out.mono ?_
  rintro e wk ⟨v0, rfl, hfr, hbk⟩
  obtain ⟨Ak, ck, rfl, hsk, hzk, _⟩ := hfr
  obtain ⟨nk, hnk⟩ : ∃ m, K.length = m := ⟨_, rfl⟩
  rw [hnk] at hsk hKl
  rw [hnk]
  have HSK := Lib.hid hsk
  have HBK := Lib.hid hbk
  have hwk := hbk.size
  clear hsk hbk HOF HBLK
  have knk : (nk : Int) ≤ bl := by omega
  have knk0 : nk ≤ bl := by omega
  obtain ⟨gk, hgk⟩ : ∃ g, wk.heap.size = g := ⟨_, rfl⟩
  have HGK := Lib.hid hgk
  rw [hgk] at HSK
  clear hgk
  have hlK : K.length = nk := by have := HSK.out.len; simpa using this.symm
  have HLK := Lib.hid hlK
  clear hlK
  go_wp2_with (first | (((with_reducible show wpList _ _ _ (⟨some 25, _, _, _, _, _⟩ :: _) _ _)); refine wlv_make Tryd.elem8 rfl _ rfl _ bl rfl rfl (by omega) ?_; intro w3 r3 b3 z3; have HR3 := Lib.hid r3; have HB3 := Lib.hid b3; have HZ3 := Lib.hid z3; clear r3 b3 z3) | (((with_reducible show wpList _ _ _ (⟨some 27, _, _, _, _, _⟩ :: _) _ _)); refine wlv_make Tryd.elem8 rfl _ rfl _ bl rfl rfl (by omega) ?_; intro w4 r4 b4 z4; have HR4 := Lib.hid r4; have HB4 := Lib.hid b4; have HZ4 := Lib.hid z4; clear r4 b4 z4))
  have hz3 : w3.heap.size = gk + 1 := by rw [HZ3.out, HGK.out]
  have hb34 : Below gk wk w4 := by
    have h3 := HB3.out
    rw [HGK.out] at h3
    exact h3.trans (HB4.out.mono (by omega))
  have m1 : MaskR w4 gk bl 0 K 0x36 := MaskR.new _ (by have h := HR3.out.later HB4.out; rw [HGK.out] at h; exact h) (by rw [HLK.out]; exact knk0)
  have m2 : MaskR w4 (gk + 1) bl 0 K 0x5c := MaskR.new _ (by have h := HR4.out; rw [hz3] at h; exact h) (by rw [HLK.out]; exact knk0)
  rw [HGK.out, hz3]
  have M1 := Lib.hid m1
  have M2 := Lib.hid m2
  have HB34 := Lib.hid hb34
  clear m1 m2 hb34 hz3
  go_loopw [10] (fun iv W => ∃ i : Nat, i ≤ bl ∧ iv = .int .i64 (i : Int) ∧ Hid (MaskR W gk bl i K 0x36) ∧ Hid (MaskR W (gk + 1) bl i K 0x5c) ∧ Hid (Below gk wk W)) (fun iv _ => bl - (intOf iv).toNat)
  case atStart => exact ⟨0, Nat.zero_le _, rfl, Lib.hid M1.out, Lib.hid M2.out, Lib.hid HB34.out⟩
  case round =>
    obtain ⟨i, hi, rfl, HM1, HM2, HBW⟩ := hrel
    by_cases hib : i < bl
    · have kib : (i : Int) < bl := by omega
      have kib0 : (0 : Int) ≤ i := by omega
      have ce1 := HM1.out.cell hib
      have ce2 := HM2.out.cell hib
      have fz1 := HM1.out.row.frozen i
      have fz2 := HM2.out.row.frozen i
      obtain ⟨x, hx⟩ : ∃ x, K.getD i 0 = x := ⟨_, rfl⟩
      have n1 := HM1.out.put hib
      have n2' := (HM2.out.far (g2 := gk) (j := i) (v := W8 (x ^^^ 0x36)) (by omega)).put hib
      have n1' := n1.far (g2 := gk + 1) (j := i) (v := W8 (x ^^^ 0x5c)) (by omega)
      rw [hx] at n1' n2'
      have hbn : Below gk wk ((wr.setCell ⟨gk, i, none⟩ (W8 (x ^^^ 0x36))).setCell ⟨gk + 1, i, none⟩ (W8 (x ^^^ 0x5c))) := below_setV (below_setV HBW.out (Nat.le_refl _) i _) (by omega) i _
      have N1 := Lib.hid n1'
      have N2 := Lib.hid n2'
      have HBN := Lib.hid hbn
      clear n1 n1' n2' hbn
      by_cases hin : i < nk
      · have kin : (i : Int) < nk := by omega
        obtain ⟨b0, off0, v0, rfl, hb0, hv0, hc0⟩ := (HSK.out.below HBW.out).at_ hin
        have hv : v0 = W8 x := by
          rw [List.getElem?_map, List.getElem?_eq_getElem (by rw [HLK.out]; exact hin)] at hv0
          have e : K[i]'(by rw [HLK.out]; exact hin) = x := by rw [← hx, List.getD_eq_getElem?_getD, List.getElem?_eq_getElem (by rw [HLK.out]; exact hin)]; rfl
          rw [e] at hv0
          exact (Option.some.inj hv0).symm
        subst hv
        have hck : (nk : Int) ≤ ck := by have := HSK.out.cap; omega
        have x36 := xor36 x
        have x5c := xor5c x
        clear hx hv0
        go_wp2
        go_round
        case rel => exact ⟨i + 1, by omega, by go_num, Lib.hid N1.out, Lib.hid N2.out, Lib.hid HBN.out⟩
        case measure => simp [intOf]; omega
      · have kin : ¬ (i : Int) < nk := by omega
        have hx0 : x = 0 := by rw [← hx, List.getD_eq_getElem?_getD, List.getElem?_eq_none (by rw [HLK.out]; omega)]; rfl
        subst hx0
        have N1' := Lib.hid (show MaskR ((wr.setCell ⟨gk, i, none⟩ (.int .u8 54)).setCell ⟨gk + 1, i, none⟩ (.int .u8 92)) gk bl (i + 1) K 0x36 from N1.out)
        have N2' := Lib.hid (show MaskR ((wr.setCell ⟨gk, i, none⟩ (.int .u8 54)).setCell ⟨gk + 1, i, none⟩ (.int .u8 92)) (gk + 1) bl (i + 1) K 0x5c from N2.out)
        have HBN' := Lib.hid (show Below gk wk ((wr.setCell ⟨gk, i, none⟩ (.int .u8 54)).setCell ⟨gk + 1, i, none⟩ (.int .u8 92)) from HBN.out)
        have z36 : bits .xor .u8 0 54 = 54 := by decide
        have z5c : bits .xor .u8 0 92 = 92 := by decide
        clear hx N1 N2 HBN
        go_wp2
        go_round
        case rel => exact ⟨i + 1, by omega, by go_num, Lib.hid N1'.out, Lib.hid N2'.out, Lib.hid HBN'.out⟩
        case measure => simp [intOf]; omega
    · obtain rfl : i = bl := by omega
      obtain ⟨wo, rfl⟩ : ∃ V, V = wr := ⟨_, rfl⟩
      have r1 := HM1.out.done
      have r2 := HM2.out.done
      have hl1 : (maskL K 0x36 i).length = i := maskL_length _ _ _ HM1.out.le
      have hl2' : (maskL K 0x5c i).length = i := maskL_length _ _ _ HM1.out.le
      have o1 : wo.ownsRow gk 5 1 (.slice (some ⟨gk, 0, none⟩) i i) i ((maskL K 0x36 i).map W8) := by
        have := row_own r1 (Nat.le_refl gk) (by rw [List.length_map, hl1]; omega)
        rwa [List.length_map, hl1] at this
      have hgo := r2.lt
      have hs2' := HS2.out.below ((HBK.out.mono hB).trans (HBW.out.mono (by have := HBK.out.size; have := HGK.out; omega)))
      have hone := ones8 msg
      have R2 := Lib.hid r2
      have O1 := Lib.hid o1
      have HSM := Lib.hid hs2'
      have HL1 := Lib.hid (⟨hl1, hl2'⟩ : (maskL K 0x36 i).length = i ∧ (maskL K 0x5c i).length = i)
      have hmm1 : i + n2 ≤ 17592186044416 := by omega
      have hgw : gk ≤ wo.heap.size := by omega
      clear r1 r2 o1 hs2' hl1 hl2'
      go_wp2_with (at_builtin; refine wlv_append Tryd.elem8 rfl _ _ rfl gk _ i _ rfl O1.out A2 n2 c2 _ rfl hz2 _ HSM.out hone hmm1 hgw ?_; intro v5 w5 hown5 hgr5; obtain ⟨A5, c5, rfl, hs5, _, hz5⟩ := SlV.of_own' hown5; have HS5 := Lib.hid hs5; have HGR5 := Lib.hid hgr5; clear hown5 hgr5 hs5)
      have hb5 : Below gk wk w5 := HBW.out.grown HGR5.out hgw (fun q hq => (O1.out.lt q hq).1)
      have r2 : RowV 5 w5 (gk + 1) ((maskL K 0x5c i).map W8) := (HGR5.out.block _ R2.out.lt (fun e => by injection e with e; simp at e)).trans R2.out
      have hs5' := HS5.out
      rw [← List.map_append] at hs5'
      have hof := rof_any w5 k HK.out _ A5 (i + n2) c5 _ hs5' hz5 (Nat.le_refl _) (by omega)
      have HOF2 := Lib.hid hof
      have HB5 := Lib.hid hb5
      have R2 := Lib.hid r2
      clear hs5' hof hb5 r2 HS5 HGR5 O1
      refine HOF2.out.mono ?_
      rintro e w6 ⟨v6, rfl, hfr, hb6⟩
      obtain ⟨A6, c6, rfl, hs6, hz6, _⟩ := hfr
      have r2 := R2.out.later hb6
      have hb56 := HB5.out.trans (hb6.mono (by have := HB5.out.size; have := HGK.out; omega))
      have o2 : w6.ownsRow gk 5 1 (.slice (some ⟨gk + 1, 0, none⟩) i i) i ((maskL K 0x5c i).map W8) := by
        have := row_own r2 (Nat.le_succ gk) (by rw [List.length_map, HL1.out.2]; omega)
        rwa [List.length_map, HL1.out.2] at this
      obtain ⟨ds, hds⟩ : ∃ l, sumL k (maskL K 0x36 i ++ msg) = l := ⟨_, rfl⟩
      rw [hds] at hs6 ⊢
      have hdl : ds.length ≤ 64 := by rw [← hds, sumL_length]; exact (szN_le HK.out).2.2
      have hone6 := ones8 ds
      have O2 := Lib.hid o2
      have HS6 := Lib.hid hs6
      have HDS := Lib.hid hds
      have HB6 := Lib.hid hb56
      have hmm2 : i + ds.length ≤ 17592186044416 := by omega
      have hgw6 : gk ≤ w6.heap.size := by have := hb56.size; have := HBW.out.size; have := HGK.out; omega
      clear r2 hb56 o2 hs6 hds hb6
      go_wp2_with (at_builtin; refine wlv_append Tryd.elem8 rfl _ _ rfl gk _ i _ rfl O2.out A6 ds.length c6 _ rfl hz6 _ HS6.out hone6 hmm2 hgw6 ?_; intro v7 w7 hown7 hgr7; obtain ⟨A7, c7, rfl, hs7, _, hz7⟩ := SlV.of_own' hown7; have HS7 := Lib.hid hs7; have HGR7 := Lib.hid hgr7; clear hown7 hgr7 hs7)
      have hb7 : Below gk wk w7 := HB6.out.grown HGR7.out hgw6 (fun q hq => (O2.out.lt q hq).1)
      have hs7' := HS7.out
      rw [← List.map_append] at hs7'
      have hof := rof_any w7 k HK.out _ A7 (i + ds.length) c7 _ hs7' hz7 (Nat.le_refl _) (by omega)
      have HOF3 := Lib.hid hof
      have HB7 := Lib.hid hb7
      clear hs7' hof hb7 HS7 HGR7 O2
      refine HOF3.out.mono ?_
      rintro e w8 ⟨v8, rfl, hfr8, hb8⟩
      have HFR := Lib.hid hfr8
      have HB8 := Lib.hid hb8
      clear hfr8 hb8
      go_wp2
      go_ret
      have hz78 := HB7.out.size
      have hgk := HGK.out
      refine ⟨v8, rfl, ?_, HBK.out.trans ((HB7.out.trans (HB8.out.mono (by omega))).mono (by have := HBK.out.size; omega))⟩
      rw [HHM.out, HDS.out]
      exact HFR.out.mono_ (by have := HBK.out.size; have := HB7.out.size; omega)
set_option maxRecDepth 100000 in
set_option maxHeartbeats 4000000 in
theorem rhmac_short (w : World) (k : Int) (hk : KindOk k) (B : Nat) (A : Option Addr) (n c : Nat) (key : List (BitVec 8)) (hs : SlV w B A n c (key.map W8)) (hz : A = none → c = 0) (hB : B ≤ w.heap.size) (hn : n ≤ 1000000)
    (A2 : Option Addr) (n2 c2 : Nat) (msg : List (BitVec 8)) (hs2 : SlV w B A2 n2 c2 (msg.map W8)) (hz2 : A2 = none → c2 = 0) (hn2 : n2 ≤ 1000000) (hc : key.length ≤ blN k) :
    Calls Tryd.prog 70 #[.int .i64 k, .slice A n c, .slice A2 n2 c2] w fun e w' => ∃ v, e = .returned v ∧ FreshV w' w.heap.size v (hmacL k key msg) ∧ Below w.heap.size w w' := by
  have hl : n = key.length := by simpa using hs.len
  have hl2 : n2 = msg.length := by simpa using hs2.len
  obtain ⟨bl, hbl⟩ : ∃ b, blN k = b := ⟨_, rfl⟩
  have hb2 : bl = 64 ∨ bl = 128 := by rw [← hbl]; exact blN_two k
  have kb1 : (64 : Int) ≤ bl := by omega
  have kb2 : (bl : Int) ≤ 128 := by omega
  have hblk := rblock_any w k
  rw [blN_eq hk, hbl] at hblk
  have HBLK := Lib.hid hblk
  obtain ⟨K, hK⟩ : ∃ K, key0 k key = K := ⟨_, rfl⟩
  have hKl : K.length ≤ bl := by rw [← hK, ← hbl]; exact key0_le hk key
  have hHM : hmacL k key msg = sumL k (maskL K 0x5c bl ++ sumL k (maskL K 0x36 bl ++ msg)) := by rw [hmacL, outerL, innerL, hK, hbl]
  have HHM := Lib.hid hHM
  have HK := Lib.hid hk
  have HS2 := Lib.hid hs2
  have HL2 := Lib.hid hl2
  have hKe : key = K := by rw [← hK, key0, if_neg (by omega)]
  subst hKe
  obtain ⟨nk, rfl⟩ : ∃ m, m = n := ⟨_, rfl⟩
  have knb : ¬ (bl : Int) < nk := by omega
  obtain ⟨wk, rfl⟩ : ∃ V, V = w := ⟨_, rfl⟩
  have hKn : nk ≤ bl := by omega
  have HSK := Lib.hid (show SlV wk wk.heap.size A nk c (key.map W8) from ⟨hs.1, hs.2.1, hs.2.2.1, fun h => by
    obtain ⟨b', o', e, hb', hc'⟩ := hs.2.2.2 h
    exact ⟨b', o', e, Nat.lt_of_lt_of_le hb' hB, hc'⟩⟩)
  have HBK := Lib.hid (Below.refl wk.heap.size wk)
  clear hblk hHM hK hk hs hs2 hl2 hc
  go_enter Tryd.func70, Tryd.ntmps70
  go_wp2_with fail
  refine HBLK.out.mono ?_
  rintro e w' ⟨rfl, rfl⟩
  have knk : (nk : Int) ≤ bl := by omega
  have knk0 : nk ≤ bl := by omega
  obtain ⟨gk, hgk⟩ : ∃ g, wk.heap.size = g := ⟨_, rfl⟩
  have HGK := Lib.hid hgk
  rw [hgk] at HSK
  clear hgk
  have hlK : key.length = nk := by have := HSK.out.len; simpa using this.symm
  have HLK := Lib.hid hlK
  clear hlK
  go_wp2_with (first | (((with_reducible show wpList _ _ _ (⟨some 25, _, _, _, _, _⟩ :: _) _ _)); refine wlv_make Tryd.elem8 rfl _ rfl _ bl rfl rfl (by omega) ?_; intro w3 r3 b3 z3; have HR3 := Lib.hid r3; have HB3 := Lib.hid b3; have HZ3 := Lib.hid z3; clear r3 b3 z3) | (((with_reducible show wpList _ _ _ (⟨some 27, _, _, _, _, _⟩ :: _) _ _)); refine wlv_make Tryd.elem8 rfl _ rfl _ bl rfl rfl (by omega) ?_; intro w4 r4 b4 z4; have HR4 := Lib.hid r4; have HB4 := Lib.hid b4; have HZ4 := Lib.hid z4; clear r4 b4 z4))
  have hz3 : w3.heap.size = gk + 1 := by rw [HZ3.out, HGK.out]
  have hb34 : Below gk wk w4 := by
    have h3 := HB3.out
    rw [HGK.out] at h3
    exact h3.trans (HB4.out.mono (by omega))
  have m1 : MaskR w4 gk bl 0 key 0x36 := MaskR.new _ (by have h := HR3.out.later HB4.out; rw [HGK.out] at h; exact h) (by rw [HLK.out]; exact knk0)
  have m2 : MaskR w4 (gk + 1) bl 0 key 0x5c := MaskR.new _ (by have h := HR4.out; rw [hz3] at h; exact h) (by rw [HLK.out]; exact knk0)
  rw [HGK.out, hz3]
  have M1 := Lib.hid m1
  have M2 := Lib.hid m2
  have HB34 := Lib.hid hb34
  clear m1 m2 hb34 hz3
  go_loopw [10] (fun iv W => ∃ i : Nat, i ≤ bl ∧ iv = .int .i64 (i : Int) ∧ Hid (MaskR W gk bl i key 0x36) ∧ Hid (MaskR W (gk + 1) bl i key 0x5c) ∧ Hid (Below gk wk W)) (fun iv _ => bl - (intOf iv).toNat)
  case atStart => exact ⟨0, Nat.zero_le _, rfl, Lib.hid M1.out, Lib.hid M2.out, Lib.hid HB34.out⟩
  case round =>
    obtain ⟨i, hi, rfl, HM1, HM2, HBW⟩ := hrel
    by_cases hib : i < bl
    · have kib : (i : Int) < bl := by omega
      have kib0 : (0 : Int) ≤ i := by omega
      have ce1 := HM1.out.cell hib
      have ce2 := HM2.out.cell hib
      have fz1 := HM1.out.row.frozen i
      have fz2 := HM2.out.row.frozen i
      obtain ⟨x, hx⟩ : ∃ x, key.getD i 0 = x := ⟨_, rfl⟩
      have n1 := HM1.out.put hib
      have n2' := (HM2.out.far (g2 := gk) (j := i) (v := W8 (x ^^^ 0x36)) (by omega)).put hib
      have n1' := n1.far (g2 := gk + 1) (j := i) (v := W8 (x ^^^ 0x5c)) (by omega)
      rw [hx] at n1' n2'
      have hbn : Below gk wk ((wr.setCell ⟨gk, i, none⟩ (W8 (x ^^^ 0x36))).setCell ⟨gk + 1, i, none⟩ (W8 (x ^^^ 0x5c))) := below_setV (below_setV HBW.out (Nat.le_refl _) i _) (by omega) i _
      have N1 := Lib.hid n1'
      have N2 := Lib.hid n2'
      have HBN := Lib.hid hbn
      clear n1 n1' n2' hbn
      by_cases hin : i < nk
      · have kin : (i : Int) < nk := by omega
        obtain ⟨b0, off0, v0, rfl, hb0, hv0, hc0⟩ := (HSK.out.below HBW.out).at_ hin
        have hv : v0 = W8 x := by
          rw [List.getElem?_map, List.getElem?_eq_getElem (by rw [HLK.out]; exact hin)] at hv0
          have e : key[i]'(by rw [HLK.out]; exact hin) = x := by rw [← hx, List.getD_eq_getElem?_getD, List.getElem?_eq_getElem (by rw [HLK.out]; exact hin)]; rfl
          rw [e] at hv0
          exact (Option.some.inj hv0).symm
        subst hv
        have hck : (nk : Int) ≤ c := by have := HSK.out.cap; omega
        have x36 := xor36 x
        have x5c := xor5c x
        clear hx hv0
        go_wp2
        go_round
        case rel => exact ⟨i + 1, by omega, by go_num, Lib.hid N1.out, Lib.hid N2.out, Lib.hid HBN.out⟩
        case measure => simp [intOf]; omega
      · have kin : ¬ (i : Int) < nk := by omega
        have hx0 : x = 0 := by rw [← hx, List.getD_eq_getElem?_getD, List.getElem?_eq_none (by rw [HLK.out]; omega)]; rfl
        subst hx0
        have N1' := Lib.hid (show MaskR ((wr.setCell ⟨gk, i, none⟩ (.int .u8 54)).setCell ⟨gk + 1, i, none⟩ (.int .u8 92)) gk bl (i + 1) key 0x36 from N1.out)
        have N2' := Lib.hid (show MaskR ((wr.setCell ⟨gk, i, none⟩ (.int .u8 54)).setCell ⟨gk + 1, i, none⟩ (.int .u8 92)) (gk + 1) bl (i + 1) key 0x5c from N2.out)
        have HBN' := Lib.hid (show Below gk wk ((wr.setCell ⟨gk, i, none⟩ (.int .u8 54)).setCell ⟨gk + 1, i, none⟩ (.int .u8 92)) from HBN.out)
        have z36 : bits .xor .u8 0 54 = 54 := by decide
        have z5c : bits .xor .u8 0 92 = 92 := by decide
        clear hx N1 N2 HBN
        go_wp2
        go_round
        case rel => exact ⟨i + 1, by omega, by go_num, Lib.hid N1'.out, Lib.hid N2'.out, Lib.hid HBN'.out⟩
        case measure => simp [intOf]; omega
    · obtain rfl : i = bl := by omega
      obtain ⟨wo, rfl⟩ : ∃ V, V = wr := ⟨_, rfl⟩
      have r1 := HM1.out.done
      have r2 := HM2.out.done
      have hl1 : (maskL key 0x36 i).length = i := maskL_length _ _ _ HM1.out.le
      have hl2' : (maskL key 0x5c i).length = i := maskL_length _ _ _ HM1.out.le
      have o1 : wo.ownsRow gk 5 1 (.slice (some ⟨gk, 0, none⟩) i i) i ((maskL key 0x36 i).map W8) := by
        have := row_own r1 (Nat.le_refl gk) (by rw [List.length_map, hl1]; omega)
        rwa [List.length_map, hl1] at this
      have hgo := r2.lt
      have hs2' := HS2.out.below ((HBK.out.mono hB).trans (HBW.out.mono (by have := HBK.out.size; have := HGK.out; omega)))
      have hone := ones8 msg
      have R2 := Lib.hid r2
      have O1 := Lib.hid o1
      have HSM := Lib.hid hs2'
      have HL1 := Lib.hid (⟨hl1, hl2'⟩ : (maskL key 0x36 i).length = i ∧ (maskL key 0x5c i).length = i)
      have hmm1 : i + n2 ≤ 17592186044416 := by omega
      have hgw : gk ≤ wo.heap.size := by omega
      clear r1 r2 o1 hs2' hl1 hl2'
      go_wp2_with (at_builtin; refine wlv_append Tryd.elem8 rfl _ _ rfl gk _ i _ rfl O1.out A2 n2 c2 _ rfl hz2 _ HSM.out hone hmm1 hgw ?_; intro v5 w5 hown5 hgr5; obtain ⟨A5, c5, rfl, hs5, _, hz5⟩ := SlV.of_own' hown5; have HS5 := Lib.hid hs5; have HGR5 := Lib.hid hgr5; clear hown5 hgr5 hs5)
      have hb5 : Below gk wk w5 := HBW.out.grown HGR5.out hgw (fun q hq => (O1.out.lt q hq).1)
      have r2 : RowV 5 w5 (gk + 1) ((maskL key 0x5c i).map W8) := (HGR5.out.block _ R2.out.lt (fun e => by injection e with e; simp at e)).trans R2.out
      have hs5' := HS5.out
      rw [← List.map_append] at hs5'
      have hof := rof_any w5 k HK.out _ A5 (i + n2) c5 _ hs5' hz5 (Nat.le_refl _) (by omega)
      have HOF2 := Lib.hid hof
      have HB5 := Lib.hid hb5
      have R2 := Lib.hid r2
      clear hs5' hof hb5 r2 HS5 HGR5 O1
      refine HOF2.out.mono ?_
      rintro e w6 ⟨v6, rfl, hfr, hb6⟩
      obtain ⟨A6, c6, rfl, hs6, hz6, _⟩ := hfr
      have r2 := R2.out.later hb6
      have hb56 := HB5.out.trans (hb6.mono (by have := HB5.out.size; have := HGK.out; omega))
      have o2 : w6.ownsRow gk 5 1 (.slice (some ⟨gk + 1, 0, none⟩) i i) i ((maskL key 0x5c i).map W8) := by
        have := row_own r2 (Nat.le_succ gk) (by rw [List.length_map, HL1.out.2]; omega)
        rwa [List.length_map, HL1.out.2] at this
      obtain ⟨ds, hds⟩ : ∃ l, sumL k (maskL key 0x36 i ++ msg) = l := ⟨_, rfl⟩
      rw [hds] at hs6 ⊢
      have hdl : ds.length ≤ 64 := by rw [← hds, sumL_length]; exact (szN_le HK.out).2.2
      have hone6 := ones8 ds
      have O2 := Lib.hid o2
      have HS6 := Lib.hid hs6
      have HDS := Lib.hid hds
      have HB6 := Lib.hid hb56
      have hmm2 : i + ds.length ≤ 17592186044416 := by omega
      have hgw6 : gk ≤ w6.heap.size := by have := hb56.size; have := HBW.out.size; have := HGK.out; omega
      clear r2 hb56 o2 hs6 hds hb6
      go_wp2_with (at_builtin; refine wlv_append Tryd.elem8 rfl _ _ rfl gk _ i _ rfl O2.out A6 ds.length c6 _ rfl hz6 _ HS6.out hone6 hmm2 hgw6 ?_; intro v7 w7 hown7 hgr7; obtain ⟨A7, c7, rfl, hs7, _, hz7⟩ := SlV.of_own' hown7; have HS7 := Lib.hid hs7; have HGR7 := Lib.hid hgr7; clear hown7 hgr7 hs7)
      have hb7 : Below gk wk w7 := HB6.out.grown HGR7.out hgw6 (fun q hq => (O2.out.lt q hq).1)
      have hs7' := HS7.out
      rw [← List.map_append] at hs7'
      have hof := rof_any w7 k HK.out _ A7 (i + ds.length) c7 _ hs7' hz7 (Nat.le_refl _) (by omega)
      have HOF3 := Lib.hid hof
      have HB7 := Lib.hid hb7
      clear hs7' hof hb7 HS7 HGR7 O2
      refine HOF3.out.mono ?_
      rintro e w8 ⟨v8, rfl, hfr8, hb8⟩
      have HFR := Lib.hid hfr8
      have HB8 := Lib.hid hb8
      clear hfr8 hb8
      go_wp2
      go_ret
      have hz78 := HB7.out.size
      have hgk := HGK.out
      refine ⟨v8, rfl, ?_, HBK.out.trans ((HB7.out.trans (HB8.out.mono (by omega))).mono (by have := HBK.out.size; omega))⟩
      rw [HHM.out, HDS.out]
      exact HFR.out.mono_ (by have := HBK.out.size; have := HB7.out.size; omega)
theorem rhmac_any (w : World) (k : Int) (hk : KindOk k) (B : Nat) (A : Option Addr) (n c : Nat) (key : List (BitVec 8)) (hs : SlV w B A n c (key.map W8)) (hz : A = none → c = 0) (hB : B ≤ w.heap.size) (hn : n ≤ 1000000)
    (A2 : Option Addr) (n2 c2 : Nat) (msg : List (BitVec 8)) (hs2 : SlV w B A2 n2 c2 (msg.map W8)) (hz2 : A2 = none → c2 = 0) (hn2 : n2 ≤ 1000000) :
    Calls Tryd.prog 70 #[.int .i64 k, .slice A n c, .slice A2 n2 c2] w fun e w' => ∃ v, e = .returned v ∧ FreshV w' w.heap.size v (hmacL k key msg) ∧ Below w.heap.size w w' := by
  by_cases hc : blN k < key.length
  · exact rhmac_long w k hk B A n c key hs hz hB hn A2 n2 c2 msg hs2 hz2 hn2 hc
  · exact rhmac_short w k hk B A n c key hs hz hB hn A2 n2 c2 msg hs2 hz2 hn2 (by omega)
theorem rhmac_no (w : World) (k : Int) (hk : ¬ KindOk k) (v1 v2 : Value) : Calls Tryd.prog 70 #[.int .i64 k, v1, v2] w fun e w' => e = .returned (.slice none 0 0) ∧ w = w' := by
  have hb : blockV k = 0 := by
    have h' : ¬ (1 ≤ k ∧ k ≤ 5) := hk
    unfold blockV
    rw [if_neg (by omega), if_neg (by omega), if_neg (by omega), if_neg (by omega), if_neg (by omega)]
  have hblk := rblock_any w k
  rw [hb] at hblk
  have HBLK := Lib.hid hblk
  clear hblk hb hk
  go_enter Tryd.func70, Tryd.ntmps70
  go_wp2_with fail
  refine HBLK.out.mono ?_
  rintro e w' ⟨rfl, rfl⟩
  go_wp2
  go_ret
  exact ⟨rfl, rfl⟩
end Go.Proofs.YtnpaidieijlkkaaDoor

/- Strings of bytes: the conversion of a slice that reads known bytes, and the comparison of two. -/
set_option linter.unusedVariables false
set_option linter.unusedSimpArgs false
namespace Go.Proofs.YtnpaidieijlkkaaDoor
open Go.RowKit Go.Shelf

def b8u (x : BitVec 8) : UInt8 := UInt8.ofBitVec x
theorem b8u_inj {x y : BitVec 8} (h : b8u x = b8u y) : x = y := by
  have := congrArg UInt8.toBitVec h
  simpa [b8u] using this
/-- the string of these bytes -/
def strB (bs : List (BitVec 8)) : ByteArray := ⟨(bs.map b8u).toArray⟩
def strV (bs : List (BitVec 8)) : Value := .string (strB bs)
theorem strB_toList (bs : List (BitVec 8)) : (strB bs).toList = bs.map b8u := by rw [strB, ByteArray.toList_mk]
theorem map_b8u_inj : ∀ (a b : List (BitVec 8)), (a.map b8u == b.map b8u) = decide (a = b)
  | [], [] => rfl
  | [], _ :: _ => rfl
  | _ :: _, [] => rfl
  | x :: a, y :: b => by
    simp only [List.map_cons, List.cons_beq_cons, map_b8u_inj a b]
    by_cases h : x = y
    · subst h; simp
    · have : (b8u x == b8u y) = false := by
        rw [beq_eq_false_iff_ne]
        exact fun e => h (b8u_inj e)
      simp [this, h]
theorem eql_str {P : Program} (w : World) (t : TypeId) (a b : List (BitVec 8)) : (binOp .eql t (strV a) (strV b)).run P w = .ok (.bool (decide (a = b))) w := by
  unfold strV
  rw [binOp_string_eql, strB_toList, strB_toList, map_b8u_inj]
  simp [Sem.run_pure]
theorem neq_str {P : Program} (w : World) (t : TypeId) (a b : List (BitVec 8)) : (binOp .neq t (strV a) (strV b)).run P w = .ok (.bool (!decide (a = b))) w := by
  unfold strV
  rw [binOp_string_neq, strB_toList, strB_toList, map_b8u_inj]
  simp [Sem.run_pure]
theorem eqGuard_str {P : Program} (w : World) (op : BinOp) (t : TypeId) (x y : Operand) (a b : List (BitVec 8)) : (eqGuard op t x y (strV a) (strV b)).run P w = .ok () w := by
  unfold strV
  cases op <;> simp [eqGuard, go_sem]
theorem eqGuard_strc {P : Program} (w : World) (op : BinOp) (t : TypeId) (x y : Operand) (a : List (BitVec 8)) (s : ByteArray) : (eqGuard op t x y (strV a) (.string s)).run P w = .ok () w := by
  unfold strV
  cases op <;> simp [eqGuard, go_sem]
/-- 'string(s)' -/
theorem conv_str {w : World} {B n c : Nat} {A : Option Addr} {bs : List (BitVec 8)} (h : SlV w B A n c (bs.map W8)) : (convert 22 9 (.slice A n c)).run Tryd.prog w = .ok (strV bs) w := by
  have hl : n = bs.length := by simpa using h.len
  cases A with
  | none =>
    have : bs = [] := by
      apply Classical.byContradiction
      intro hn
      obtain ⟨b, off, e, _⟩ := h.2.2.2 (by simpa using hn)
      cases e
    subst this
    subst hl
    rw [run_convert_bytes_string w _ _ 5 none _ c Tryd.underlying22 Tryd.underlying5 Tryd.underlying9]
    rfl
  | some ad =>
    have hb := run_convert_bytes_back (P := Tryd.prog) w 22 9 5 ad c (bs.map b8u) Tryd.underlying22 Tryd.underlying5 Tryd.underlying9 (fun j hj => by
      rw [List.length_map] at hj
      obtain ⟨b, off, e, _, hc⟩ := h.2.2.2 (by intro e; rw [List.map_eq_nil_iff] at e; subst e; simp at hj)
      injection e with e
      subst e
      rw [Addr.add_lit, hc j (W8 bs[j]) (by rw [List.getElem?_map, List.getElem?_eq_getElem hj]; rfl)]
      simp [W8, i8, b8u])
    rw [List.length_map, ← hl] at hb
    exact hb
/-- an operation that the region's walk is not to try ahead of its turn -/
def shutOp (o : Oper) : Oper := o
theorem shut_conv (d : Option Tmp) (s t : TypeId) (x : Operand) (e : _) (f : _) (g : _) (h : _) : (⟨d, .convert s t x, e, f, g, h⟩ : Oper) = shutOp ⟨d, .convert s t x, e, f, g, h⟩ := rfl
end Go.Proofs.YtnpaidieijlkkaaDoor

/- baileylaw3: begun, its numbers. -/
set_option linter.unusedVariables false
set_option linter.unusedSimpArgs false
namespace Go.Proofs.YtnpaidieijlkkaaDoor
open Go.RowKit Go.Shelf
attribute [local go_sem] shutOp

def abcL : List (BitVec 8) := [0x61, 0x62, 0x63]
set_option maxRecDepth 100000 in
theorem sha_abc : (sumL 3 abcL).take 4 = [0xba, 0x78, 0x16, 0xbf] := by decide +kernel
/-- the bytes of a constant -/
theorem constSl (w : World) (l : List (BitVec 8)) (hl : l.length ≤ 9223372036854775807) (a b : Nat) : SlV (w.alloc (.cells (l.map W8).toArray 5 (a, b))) (w.heap.size + 1) (some ⟨w.heap.size, 0, none⟩) l.length l.length (l.map W8) :=
  ⟨by rw [List.length_map], Nat.le_refl _, hl, fun _ => ⟨w.heap.size, 0, rfl, by omega, fun k v hv => by
    rw [Nat.zero_add, World.cell?_alloc_mark]
    simpa using hv⟩⟩
theorem newFrozen (w : World) (C : Array Value) (a b : Nat) : ∃ W, w.alloc (.cells C 5 (a, b)) = W ∧ Below w.heap.size w W ∧ W.heap.size = w.heap.size + 1 := ⟨_, rfl, (Below.refl _ w).alloc (Nat.le_refl _) _, by simp⟩
theorem convConst (w : World) (C : Array Value) (n c : Nat) : (convert 22 22 (.slice (some ⟨w.heap.size, 0, none⟩) n c)).run Tryd.prog (w.alloc (.cells C 5)) = .ok (.slice (some ⟨w.heap.size, 0, none⟩) n c) (w.alloc (.cells C 5 (C.size, C.size + 1))) := Lib.run_convert_bytes_const w 22 5 C n c Tryd.underlying22 Tryd.underlying5
theorem ofConst (w : World) (hGS : StartsG w) (hGR : RootsG w) :
    Calls Tryd.prog 54 #[.int .i64 3, .slice (some ⟨w.heap.size + 1, 0, none⟩) 1 1] ((w.alloc (.cells #[.int .u8 97, .int .u8 98, .int .u8 99] 5 (3, 4))).alloc (.cells #[.slice (some ⟨w.heap.size, 0, none⟩) 3 3] 22)) fun e w' => ∃ b, e = .returned (.slice (some ⟨b, 0, none⟩) 32 32) ∧ (convert 22 9 (.slice (some ⟨b, 0, none⟩) 32 32)).run Tryd.prog w' = .ok (strV (sumL 3 abcL)) w' ∧ Below w.heap.size w w' := by
  have hk3 : KindOk 3 := by unfold KindOk; omega
  obtain ⟨W1, e1, b1, z1⟩ := newFrozen w #[.int .u8 97, .int .u8 98, .int .u8 99] 3 4
  have hs1 : SlV W1 (w.heap.size + 1) (some ⟨w.heap.size, 0, none⟩) 3 3 (abcL.map W8) := by rw [← e1]; exact constSl w abcL (by decide) 3 4
  obtain ⟨W2, e2, r2, b2, z2⟩ := newV W1 22 [.slice (some ⟨w.heap.size, 0, none⟩) 3 3] #[.slice (some ⟨w.heap.size, 0, none⟩) 3 3] rfl
  rw [e1, e2]
  have h12 : Below w.heap.size w W2 := b1.trans (b2.mono (by omega))
  have hpv : PartsV W2 W2.heap.size (some ⟨W1.heap.size, 0, none⟩) 1 1 [abcL] := ⟨[.slice (some ⟨w.heap.size, 0, none⟩) 3 3], r2.sl (by simp), rfl, fun i v ps hv hp => by
    cases i with
    | zero => cases hv; cases hp; exact ⟨_, 3, 3, rfl, (hs1.below (b2.mono (by omega))).more (by omega), by intro h; cases h⟩
    | succ i => simp at hv⟩
  have hof := hof_any W2 3 hk3 (hGS.later h12) (hGR.later h12) W2.heap.size _ _ _ _ hpv (Nat.le_refl _) (by decide) (by decide)
  rw [List.flatten_singleton, z1] at hof
  refine hof.mono ?_
  rintro e w3 ⟨b, rfl, hbb, hrow, hb3⟩
  have hDl : (sumL 3 abcL).length = 32 := by rw [sumL_length]; rfl
  have hsl := hrow.sl (by rw [List.length_map, hDl]; decide)
  rw [List.length_map, hDl] at hsl
  exact ⟨b, rfl, conv_str hsl, h12.trans (hb3.mono h12.size)⟩
theorem convConstD (w : World) (C : Array Value) (n c : Nat) : (convert 22 22 (.slice (some ⟨w.heap.size, 0, none⟩) n c)).run Tryd.prog (w.alloc (.cells C 5)).drew = .ok (.slice (some ⟨w.heap.size, 0, none⟩) n c) (w.alloc (.cells C 5 (C.size, C.size + 1))).drew := convConst w.drew C n c
theorem ofConstD (w : World) (hGS : StartsG w) (hGR : RootsG w) :
    Calls Tryd.prog 54 #[.int .i64 3, .slice (some ⟨w.heap.size + 1, 0, none⟩) 1 1] ((w.alloc (.cells #[.int .u8 97, .int .u8 98, .int .u8 99] 5 (3, 4))).alloc (.cells #[.slice (some ⟨w.heap.size, 0, none⟩) 3 3] 22)).drew fun e w' => ∃ b, e = .returned (.slice (some ⟨b, 0, none⟩) 32 32) ∧ (convert 22 9 (.slice (some ⟨b, 0, none⟩) 32 32)).run Tryd.prog w' = .ok (strV (sumL 3 abcL)) w' ∧ Below w.heap.size w w' := by
  refine (ofConst w.drew (hGS.later (Below.refl _ w).drew) (hGR.later (Below.refl _ w).drew)).mono ?_
  rintro e w' ⟨b, he, hc, hb⟩
  exact ⟨b, he, hc, ⟨hb.os, hb.tape, hb.output, hb.size, fun i hi => hb.block i hi⟩⟩
theorem hmacNil (w : World) (hGS : StartsG w) (hGR : RootsG w) :
    Calls Tryd.prog 129 #[.int .i64 3, .slice none 0 0, .slice none 0 0] w fun e w' => ∃ b, e = .returned (.slice (some ⟨b, 0, none⟩) 32 32) ∧ Below w.heap.size w w' := by
  have hk3 : KindOk 3 := by unfold KindOk; omega
  refine (hmac_any w 3 hk3 hGS hGR w.heap.size none 0 0 [] (SlV.nil _ _ _ (by decide)) (fun _ => rfl) (Nat.le_refl _) (by decide) none 0 0 [] (PartsV.nil _ _ _ (by decide)) (by decide) (by decide)).mono ?_
  rintro e w' ⟨b, rfl, _, _, hb⟩
  exact ⟨b, rfl, hb⟩
end Go.Proofs.YtnpaidieijlkkaaDoor

/- baileylaw3: Short; and from a row of bytes that came in to a slice that reads bytes. -/
set_option linter.unusedVariables false
set_option linter.unusedSimpArgs false
namespace Go.Proofs.YtnpaidieijlkkaaDoor
open Go.RowKit Go.Shelf

theorem short_any (w : World) (B : Nat) (A : Option Addr) (n c : Nat) (bs : List (BitVec 8)) (hs : SlV w B A n c (bs.map W8)) (m : Nat) (hm : m ≤ 1000000) :
    Calls Tryd.prog 10 #[.slice A n c, .int .i64 (m : Int)] w fun e w' => e = .returned (.slice A (min n m) c) ∧ w = w' := by
  have h1 := hs.cap
  have h2 := hs.max
  have hmI : (m : Int) ≤ 1000000 := by omega
  have hm0 : (0 : Int) ≤ m := by omega
  have hnI : (n : Int) ≤ 9223372036854775807 := by omega
  by_cases h : m < n
  · obtain ⟨b, off, v, rfl, _, _, _⟩ := hs.at_ (k := 0) (by omega)
    have hI : (m : Int) < n := by omega
    have hmc : (m : Int) ≤ c := by omega
    have hmn : min n m = m := by omega
    have HMN := Lib.hid hmn
    clear hs h hmn
    go_enter Tryd.func10, Tryd.ntmps10
    go_wp2
    go_ret
    rw [HMN.out]
    exact ⟨rfl, rfl⟩
  · have hI : (n : Int) ≤ m := by omega
    have hmn : min n m = n := by omega
    have HMN := Lib.hid hmn
    clear hs h hmn
    go_enter Tryd.func10, Tryd.ntmps10
    go_wp2
    go_ret
    rw [HMN.out]
    exact ⟨rfl, rfl⟩

/-- a byte off a number -/
def toB (z : Int) : BitVec 8 := BitVec.ofInt 8 z
theorem W8_toB {z : Int} (h : (Lit.int .u8 z).wf = true) : W8 (toB z) = .int .u8 z := by
  have hb := bounds_u8 h
  have : ((BitVec.ofInt 8 z).toNat : Int) = z := by
    rw [BitVec.toNat_ofInt]
    omega
  show Value.int .u8 ((BitVec.ofInt 8 z).toNat : Int) = _
  rw [this]
theorem slV_of_row {w : World} {a : Option Addr} {len cap : Nat} {zs : List Int}
    (h : (a = none ∧ len = 0 ∧ cap = 0 ∧ zs = []) ∨ ∃ x, a = some x ∧ len ≤ cap ∧ cap ≤ maxLen ∧ zs.length = cap ∧ (∀ i, i < zs.length → w.cell? (x.add i) = some (.int .u8 (zs.getD i 0))) ∧ ∀ n ∈ zs, (Lit.int .u8 n).wf = true) :
    ∃ bs : List (BitVec 8), SlV w w.heap.size a len cap (bs.map W8) ∧ (a = none → cap = 0) := by
  rcases h with ⟨rfl, rfl, rfl, rfl⟩ | ⟨x, rfl, hl, hm, hz, hc, hwf⟩
  · exact ⟨[], SlV.nil _ _ _ (by decide), fun _ => rfl⟩
  · refine ⟨(zs.take len).map toB, ⟨by simp; omega, hl, by simpa [maxLen] using hm, fun hne => ?_⟩, fun h => by cases h⟩
    have hlen : 0 < len := by
      rcases Nat.eq_zero_or_pos len with h | h
      · subst h; simp at hne
      · exact h
    obtain ⟨b, off, spot⟩ := x
    have h0 := hc 0 (by omega)
    have hsp : spot = none := by simpa [Addr.add] using World.cell?_spot h0
    subst hsp
    refine ⟨b, off, rfl, World.block_lt_of_cell? w _ (by simpa [Addr.add] using h0), fun k v hv => ?_⟩
    rw [List.map_map, List.getElem?_map, Option.map_eq_some_iff] at hv
    obtain ⟨z, hzk, rfl⟩ := hv
    rw [List.getElem?_take] at hzk
    split at hzk
    · rename_i hkl
      have h1 := hc k (by omega)
      rw [Addr.add_lit] at h1
      rw [h1, List.getD_eq_getElem?_getD, hzk]
      show some (Value.int .u8 z) = some (W8 (toB z))
      rw [W8_toB (hwf z (List.mem_of_getElem? hzk))]
    · cases hzk
end Go.Proofs.YtnpaidieijlkkaaDoor
