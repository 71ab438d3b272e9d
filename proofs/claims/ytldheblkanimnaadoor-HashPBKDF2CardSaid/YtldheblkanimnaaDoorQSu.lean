/- baileyref3: PBKDF2. -/
import Derived.Test.YtldheblkanimnaaDoorQSr
import Derived.Test.YtldheblkanimnaaDoorQSp
import Derived.Test.YtldheblkanimnaaDoorQHpn
import Derived.Laws.OwnMore
set_option linter.unusedVariables false
set_option linter.unusedSimpArgs false
namespace Go.Proofs.YtldheblkanimnaaDoor
open Go.RowKit Go.Shelf

theorem SlV.lift_ {w V : World} {b0 n c : Nat} {A : Option Addr} {p : List Value} (h : SlV w b0 A n c p) (hb : Below b0 w V) (hz : b0 ≤ V.heap.size) : SlV V V.heap.size A n c p := by
  have h0 := h.below hb
  exact ⟨h0.1, h0.2.1, h0.2.2.1, fun hne => by obtain ⟨b', o', e, hb', hc'⟩ := h0.2.2.2 hne; exact ⟨b', o', e, by omega, hc'⟩⟩
/-- the key from a password -/
def pbkL (k : Int) (pin salt : List (BitVec 8)) (R N : Nat) : List (BitVec 8) := fillL (fun i => tL k pin (salt ++ counterL (i + 1)) (R - 1)) N
set_option maxRecDepth 100000 in
set_option maxHeartbeats 8000000 in
theorem rpbk_any (w : World) (k : Int) (hk : KindOk k) (B : Nat) (A1 : Option Addr) (n1 c1 : Nat) (pin : List (BitVec 8)) (hs1 : SlV w B A1 n1 c1 (pin.map W8)) (hz1 : A1 = none → c1 = 0) (A2 : Option Addr) (n2 c2 : Nat) (salt : List (BitVec 8)) (hs2 : SlV w B A2 n2 c2 (salt.map W8)) (hz2 : A2 = none → c2 = 0) (hB : B ≤ w.heap.size) (hn1 : n1 ≤ 1000) (hn2 : n2 ≤ 1000) (R N : Nat) (hR1 : 1 ≤ R) (hR2 : R ≤ 65536) (hN1 : 1 ≤ N) (hN2 : N ≤ 65536) (hok : R * ((N + szN k - 1) / szN k) ≤ 65536) :
    Calls Tryd.prog 27 #[.int .i64 k, .slice A1 n1 c1, .slice A2 n2 c2, .int .i64 (R : Int), .int .i64 (N : Int)] w fun e w' => ∃ v, e = .returned v ∧ FreshV w' w.heap.size v (pbkL k pin salt R N) ∧ Below w.heap.size w w' := by
  have hl2 : n2 = salt.length := by simpa using hs2.len
  have hmx : Tryd.prog.follows .mixedOrders = true := by kernel_rfl
  obtain ⟨s, hs0⟩ : ∃ s, szN k = s := ⟨_, rfl⟩
  have hs20 : 20 ≤ s ∧ s ≤ 64 := by have := szN_le hk; omega
  have hsz := rsize_any w k
  rw [szN_eq hk, hs0] at hsz
  rw [hs0] at hok
  obtain ⟨q, hq⟩ : ∃ q, (N + s - 1) / s = q := ⟨_, rfl⟩
  rw [hq] at hok
  have hqI : ((N : Int) + (s : Int) - 1) / (s : Int) = (q : Int) := by rw [← hq, Int.natCast_ediv]; congr 1; omega
  have hqT : ((N : Int) + (s : Int) - 1).tdiv (s : Int) = (q : Int) := by rw [Int.tdiv_eq_ediv_of_nonneg (by omega)]; exact hqI
  obtain ⟨p, hp⟩ : ∃ p, 65536 / R = p := ⟨_, rfl⟩
  have hpI : (65536 : Int) / (R : Int) = (p : Int) := by rw [← hp, Int.natCast_ediv]; rfl
  have hpT : (65536 : Int).tdiv (R : Int) = (p : Int) := by rw [Int.tdiv_eq_ediv_of_nonneg (by omega)]; exact hpI
  have hqp : q ≤ p := by rw [← hp]; exact (Nat.le_div_iff_mul_le (by omega)).2 (by rw [Nat.mul_comm]; exact hok)
  have hpb : p ≤ 65536 := by rw [← hp]; exact Nat.div_le_self _ _
  have b1 : ((s : Int) == 0) = false := by simp; omega
  have b2 : decide ((R : Int) < 1) = false := by simp; omega
  have b3 : decide (65536 < (R : Int)) = false := by simp; omega
  have b4 : decide ((N : Int) < 1) = false := by simp; omega
  have b5 : decide (65536 < (N : Int)) = false := by simp; omega
  have b6 : decide ((p : Int) < (q : Int)) = false := by simp; omega
  have kqp : (q : Int) ≤ p := by omega
  have ks0 : ¬ (s : Int) = 0 := by omega
  have kR0 : ¬ (R : Int) = 0 := by omega
  have ks1 : (20 : Int) ≤ s := by omega
  have ks2 : (s : Int) ≤ 64 := by omega
  have kN1 : (1 : Int) ≤ N := by omega
  have kN2 : (N : Int) ≤ 65536 := by omega
  have kR1 : (1 : Int) ≤ R := by omega
  have kR2 : (R : Int) ≤ 65536 := by omega
  have kq : (q : Int) ≤ 65536 := by omega
  have kp : (p : Int) ≤ 65536 := by omega
  obtain ⟨f, hf⟩ : ∃ f : Nat → List (BitVec 8), (fun i => tL k pin (salt ++ counterL (i + 1)) (R - 1)) = f := ⟨_, rfl⟩
  have hfl : ∀ j, (f j).length = s := fun j => by rw [← hf, ← hs0]; exact tL_length _ _ _ _
  have hfin : ∀ j, N ≤ s * j → (seqL f j).take N = pbkL k pin salt R N := fun j hj => by rw [fillL_eq f s hfl (by omega) N j hj, ← hf]; rfl
  have own0 : w.ownsRow w.heap.size 5 1 (.slice none 0 0) (s * 0) ((seqL f 0).map W8) := World.ownsRow_nil _ _ _ _
  have HSZ := Lib.hid hsz
  have HS1 := Lib.hid hs1
  have HS2 := Lib.hid hs2
  have HK := Lib.hid hk
  have HF := Lib.hid hf
  have HFL := Lib.hid hfl
  have HFIN := Lib.hid hfin
  have HO0 := Lib.hid own0
  have HL2 := Lib.hid hl2
  have HS0 := Lib.hid hs0
  clear hsz hs1 hs2 hk hf hfl hfin own0 hs0 hl2 hq hp hok hqp hpb
  go_enter Tryd.func27, Tryd.ntmps27
  go_wp2_with fail
  refine HSZ.out.mono ?_
  rintro e w' ⟨rfl, rfl⟩
  go_wp2_with fail
  go_quiet (fail)
  obtain ⟨w0, hw0⟩ : ∃ V, w.drewN nq = V := ⟨_, rfl⟩
  rw [hw0]
  have hb00 : Below w.heap.size w w0 := by rw [← hw0]; exact below_drewN (Below.refl _ _) _
  have ho00 := own_keep HO0.out (fun q hq => hb00.block q (HO0.out.lt q hq).2)
  have HB00 := Lib.hid hb00
  have HO00 := Lib.hid ho00
  clear hw0 hb00 ho00
  go_wp2
  go_loopw [12, 13] (fun tv iv W => ∃ (i c' : Nat) (A' : Option Addr), i ≤ 65536 ∧ s * i ≤ N + 64 ∧ iv = .int .i64 ((i + 1 : Nat) : Int) ∧ tv = .slice A' (s * i) c' ∧ Hid (W.ownsRow w.heap.size 5 1 (.slice A' (s * i) c') (s * i) ((seqL f i).map W8)) ∧ Hid (Below w.heap.size w W)) (fun tv _ _ => match tv with | .slice _ n _ => N - n | _ => 0)
  case atStart => exact ⟨0, 0, none, Nat.zero_le _, by omega, rfl, rfl, Lib.hid HO00.out, Lib.hid HB00.out⟩
  case round =>
    obtain ⟨ii, c', A', hi, hsi, rfl, rfl, HO, HB⟩ := hrel
    obtain ⟨m, hm⟩ : ∃ m, s * ii = m := ⟨_, rfl⟩
    have hmi : ii ≤ m := by rw [← hm]; exact Nat.le_mul_of_pos_left ii (by omega)
    obtain ⟨i1, hi1⟩ : ∃ x, ii + 1 = x := ⟨_, rfl⟩
    rw [hm] at HO hsi
    rw [hm, hi1]
    by_cases hmN : m < N
    · have kmN : (m : Int) < N := by omega
      obtain ⟨wo, rfl⟩ : ∃ V, V = wr := ⟨_, rfl⟩
      have h4 := rfour_any wo i1 (by omega)
      have H4 := Lib.hid h4
      have HM := Lib.hid hm
      have HI1 := Lib.hid hi1
      have ki1 : (i1 : Int) ≤ 65537 := by omega
      clear h4 hm hi1
      go_wp2_with fail
      refine H4.out.mono ?_
      rintro e w4 ⟨rfl, hr4, hb4⟩
      have hw0 := HB.out.size
      have hV : Below wo.heap.size wo (w4.alloc (.cells #[.slice A2 n2 c2, .slice (some ⟨wo.heap.size, 0, none⟩) 4 4] 22)) := hb4.alloc hb4.size _
      have hrV : RowV 22 (w4.alloc (.cells #[.slice A2 n2 c2, .slice (some ⟨wo.heap.size, 0, none⟩) 4 4] 22)) w4.heap.size [.slice A2 n2 c2, .slice (some ⟨wo.heap.size, 0, none⟩) 4 4] := RowV.new w4 22 _
      have hr4V := hr4.later ((Below.refl w4.heap.size w4).alloc (Nat.le_refl _) (.cells #[.slice A2 n2 c2, .slice (some ⟨wo.heap.size, 0, none⟩) 4 4] 22))
      obtain ⟨V, hVe⟩ : ∃ V, w4.alloc (.cells #[.slice A2 n2 c2, .slice (some ⟨wo.heap.size, 0, none⟩) 4 4] 22) = V := ⟨_, rfl⟩
      rw [hVe] at hV hrV hr4V
      have hsV := SlV.lift_ HS2.out ((HB.out.trans (hV.mono hw0)).mono hB) (by have := hV.size; omega)
      have hlt4 := hrV.lt
      have hs4 : SlV V V.heap.size (some ⟨wo.heap.size, 0, none⟩) 4 4 ((counterL i1).map W8) := by
        have := hr4V.sl (by simp [counterL_length])
        rwa [List.length_map, counterL_length] at this
      have hj := rjoin_any V V.heap.size (some ⟨w4.heap.size, 0, none⟩) 2 2 [salt, counterL i1] (PartsV.two hrV hsV hz2 hs4 (by intro h; cases h) hlt4) (Nat.le_refl _) (by decide) (by simp [counterL_length]; have := HL2.out; omega)
      rw [show [salt, counterL i1].flatten = salt ++ counterL i1 by simp] at hj
      obtain ⟨js, hjs⟩ : ∃ l, salt ++ counterL i1 = l := ⟨_, rfl⟩
      obtain ⟨jl, hjl⟩ : ∃ l, js.length = l := ⟨_, rfl⟩
      have hjb : jl ≤ 2000 := by rw [← hjl, ← hjs, List.length_append, counterL_length]; have := HL2.out; omega
      have hfi : tL k pin js (R - 1) = f ii := by rw [← hjs, ← HI1.out, ← HF.out]
      rw [hjs, hjl] at hj
      have HFI := Lib.hid hfi
      have HJ := Lib.hid hj
      have HV := Lib.hid hV
      have HVE := Lib.hid hVe
      clear hr4 hb4 hV hrV hr4V hsV hs4 hj hVe hjs hjl hfi
      go_wp2_with fail
      rw [HVE.out]
      refine HJ.out.mono ?_
      rintro e w5 ⟨v5, rfl, ho5, hb5⟩
      obtain ⟨A5, c5, rfl, hs5, _, hz5⟩ := SlV.of_own' ho5
      have hb05 : Below wo.heap.size wo w5 := HV.out.trans (hb5.mono HV.out.size)
      have hpin5 := SlV.lift_ HS1.out ((HB.out.trans (hb05.mono hw0)).mono hB) (by have := hb05.size; omega)
      have hof := rhmac_any w5 k HK.out w5.heap.size A1 n1 c1 pin hpin5 hz1 (Nat.le_refl _) (by omega) A5 jl c5 js hs5 hz5 (by omega)
      obtain ⟨U, hU⟩ : ∃ U : Nat → List (BitVec 8), uL k pin js = U := ⟨_, rfl⟩
      obtain ⟨T, hT⟩ : ∃ T : Nat → List (BitVec 8), tL k pin js = T := ⟨_, rfl⟩
      have hUl : ∀ j, (U j).length = s := fun j => by rw [← hU, ← HS0.out]; exact uL_length _ _ _ _
      have hTl : ∀ j, (T j).length = s := fun j => by rw [← hT, ← HS0.out]; exact tL_length _ _ _ _
      have hT0 : T 0 = U 0 := by rw [← hT, ← hU]; rfl
      have hT1 : ∀ j, T (j + 1) = xorL (T j) (U (j + 1)) := fun j => by rw [← hT, ← hU]; rfl
      have hU1 : ∀ j, hmacL k pin (U j) = U (j + 1) := fun j => by rw [← hU]; rfl
      have hU0 : hmacL k pin js = U 0 := by rw [← hU]; rfl
      rw [hU0] at hof
      have hTf : T (R - 1) = f ii := by rw [← hT]; exact HFI.out
      have HOF := Lib.hid hof
      have HB05 := Lib.hid hb05
      have HUL := Lib.hid hUl
      have HTL := Lib.hid hTl
      have HT0 := Lib.hid hT0
      have HT1 := Lib.hid hT1
      have HU1 := Lib.hid hU1
      have HTF := Lib.hid hTf
      clear ho5 hb5 hs5 hof hb05 hpin5 hU hT hUl hTl hT0 hT1 hU1 hU0 hTf
      go_wp2_with fail
      refine HOF.out.mono ?_
      rintro e w6 ⟨v6, rfl, hfr, hb6⟩
      obtain ⟨Au, cu, rfl, hsu, hzu, _⟩ := hfr
      rw [HUL.out] at hsu ⊢
      have hb06 := HB05.out.trans (hb6.mono HB05.out.size)
      have hone := ones8 (U 0)
      have HSU := Lib.hid hsu
      have HB06 := Lib.hid hb06
      have hmm0 : 0 + s ≤ 17592186044416 := by omega
      have t2 := HSU.out
      clear hsu hb6 hb06
      go_wp2_with (at_builtin; refine wlv_append Tryd.elem8 rfl _ _ rfl w6.heap.size _ 0 [] rfl (World.ownsRow_nil _ _ _ _) Au s cu _ rfl hzu _ t2 hone hmm0 (Nat.le_refl _) ?_; intro v7 w7 hown7 hgr7; rw [Nat.zero_add, List.nil_append] at hown7; obtain ⟨xb, xc, rfl, hxb, hsx⟩ := own_form0 hown7 (by omega); have HO7 := Lib.hid hown7; have HSX := Lib.hid hsx; have HB7 := Lib.hid ((Below.refl w6.heap.size w6).grown hgr7 (Nat.le_refl _) (fun k h => by cases h)); clear hown7 hgr7 hsx)
      have hx1 := HSX.out.cap
      have hx2 := HSX.out.max
      have kx1 : (s : Int) ≤ xc := by omega
      have kx2 : (xc : Int) ≤ 9223372036854775807 := by omega
      have hsu7 := HSU.out.below HB7.out
      have hu7 : SlV w7 w7.heap.size Au s cu ((U 0).map W8) := ⟨hsu7.1, hsu7.2.1, hsu7.2.2.1, fun hne => by obtain ⟨b', o', e, hb', hc'⟩ := hsu7.2.2.2 hne; exact ⟨b', o', e, by have := HB7.out.size; omega, hc'⟩⟩
      have hux : ∀ a, Au = some a → a.block ≠ xb := fun a ha => by
        obtain ⟨b', o', _, e, hb', _, _⟩ := HSU.out.at_ (k := 0) (by omega)
        rw [ha] at e
        injection e with e
        rw [e]
        show b' ≠ xb
        omega
      have HU7 := Lib.hid hu7
      have HUX := Lib.hid hux
      have HB07 := Lib.hid (HB06.out.trans (HB7.out.mono HB06.out.size))
      have HT7 := Lib.hid (show w7.ownsRow w6.heap.size 5 1 (.slice (some ⟨xb, 0, none⟩) s xc) s ((T 0).map W8) by rw [HT0.out]; exact HO7.out)
      obtain ⟨R1, hR1'⟩ : ∃ r, R - 1 = r := ⟨_, rfl⟩
      have HRR := Lib.hid (show R = R1 + 1 by omega)
      have h67 := HB06.out.size
      rw [hR1'] at HTF
      clear hR1'
      clear hsu7 hu7 hux hx1 hx2 HSX HO7 HSU t2
      go_wp2
      go_loopw [15, 17] (fun uv rv W => ∃ (j cu : Nat) (Au : Option Addr), j ≤ R1 ∧ rv = .int .i64 ((j + 1 : Nat) : Int) ∧ uv = .slice Au s cu ∧ (Au = none → cu = 0) ∧ Hid (SlV W W.heap.size Au s cu ((U j).map W8)) ∧ Hid (∀ a, Au = some a → a.block ≠ xb) ∧ Hid (W.ownsRow w6.heap.size 5 1 (.slice (some ⟨xb, 0, none⟩) s xc) s ((T j).map W8)) ∧ Hid (Below wo.heap.size wo W)) (fun _ rv _ => R1 + 1 - (intOf rv).toNat)
      case atStart => exact ⟨0, cu, Au, Nat.zero_le _, rfl, rfl, hzu, Lib.hid HU7.out, Lib.hid HUX.out, Lib.hid HT7.out, Lib.hid HB07.out⟩
      case round =>
        obtain ⟨j, cv, Av, hj, rfl, rfl, hzv, HSV, HUV, HTV, HBV⟩ := hrel
        obtain ⟨j1, hj1⟩ : ∃ x, j + 1 = x := ⟨_, rfl⟩
        rw [hj1]
        by_cases hjR : j < R1
        · have kj : (j1 : Int) < R := by have := HRR.out; omega
          obtain ⟨wp, rfl⟩ : ∃ V, V = wr := ⟨_, rfl⟩
          have hpz := HBV.out.size
          have hpin := SlV.lift_ HS1.out ((HB.out.trans (HBV.out.mono hw0)).mono hB) (by omega)
          have hof := rhmac_any wp k HK.out wp.heap.size A1 n1 c1 pin hpin hz1 (Nat.le_refl _) (by omega) Av s cv (U j) HSV.out hzv (by omega)
          rw [HU1.out, hj1] at hof
          have HOF := Lib.hid hof
          have HJ1 := Lib.hid hj1
          have hxz : xb < wp.heap.size := (HTV.out.lt xb rfl).2
          clear hpin hof hj1
          go_wp2_with fail
          refine HOF.out.mono ?_
          rintro e wA ⟨vA, rfl, hfr, hbA⟩
          obtain ⟨AA, cA, rfl, hsA, hzA, hBA⟩ := hfr
          rw [HUL.out] at hsA ⊢
          obtain ⟨ub, uo, _, rfl, hub, _, _⟩ := hsA.at_ (k := 0) (by omega)
          have hubx : ub ≠ xb := by have := hBA _ rfl; simp at this; omega
          have hcA := hsA.cap
          have hmA := hsA.max
          have ku1 : (s : Int) ≤ cA := by omega
          have ku2 : (cA : Int) ≤ 9223372036854775807 := by omega
          have htA := own_keep HTV.out (fun q hq => hbA.block q (HTV.out.lt q hq).2)
          have HSA := Lib.hid hsA
          have HTA := Lib.hid htA
          have HBA := Lib.hid (HBV.out.trans (hbA.mono hpz))
          have hAz := hbA.size
          clear hsA htA hbA hcA hmA hBA hzA
          go_wp2
          go_loopw [18] (fun iv W => ∃ i : Nat, i ≤ s ∧ iv = .int .i64 (i : Int) ∧ Hid (W.ownsRow w6.heap.size 5 1 (.slice (some ⟨xb, 0, none⟩) s xc) s (((T j1).take i ++ (T j).drop i).map W8)) ∧ Hid (OnlyV wA W xb)) (fun iv _ => s - (intOf iv).toNat)
          case atStart => exact ⟨0, Nat.zero_le _, rfl, Lib.hid (by simpa using HTA.out), Lib.hid (OnlyV.refl _ _)⟩
          case round =>
            obtain ⟨i, hi, rfl, HOI, HOV⟩ := hrel
            by_cases his : i < s
            · have kis : (i : Int) < s := by omega
              have ki0 : (0 : Int) ≤ i := by omega
              obtain ⟨x, hx⟩ : ∃ x, (T j)[i]? = some x := ⟨(T j)[i]'(by rw [HTL.out]; exact his), List.getElem?_eq_getElem _⟩
              obtain ⟨y, hy⟩ : ∃ y, (U j1)[i]? = some y := ⟨(U j1)[i]'(by rw [HUL.out]; exact his), List.getElem?_eq_getElem _⟩
              have cx : wr.cell? ⟨xb, i, none⟩ = some (W8 x) := by
                rw [HOI.out.cellAt i (by omega), List.getElem?_map, mid_get _ _ _ (by rw [HTL.out]; omega), hx]; rfl
              have cy : wr.cell? ⟨ub, uo + i, none⟩ = some (W8 y) := by
                obtain ⟨b', o', e, hb', hc'⟩ := HSA.out.2.2.2 (by intro e; have := congrArg List.length e; simp [HUL.out] at this; omega)
                injection e with e
                injection e with e1 e2
                subst e1
                subst e2
                exact (HOV.out.cell (p := ⟨ub, uo + i, none⟩) hb' hubx).trans (hc' i _ (by rw [List.getElem?_map, hy]; rfl))
              have hfz := HOI.out.frozenAt i
              have hst := (HOI.out.stored i (W8 (x ^^^ y))).1
              rw [← List.map_set, mid_set _ _ i _ (by rw [← HJ1.out, HT1.out, HJ1.out]; exact xorL_get hx hy) (by rw [HTL.out]; exact his)] at hst
              have hov := HOV.out.set i (W8 (x ^^^ y))
              have HST := Lib.hid hst
              have HOX := Lib.hid hov
              clear hx hy hst hov
              go_wp2_with fail
              refine (wpIn_wide (n := 9)).1 (wpIn_region_pure rfl hmx [(81, .slice (some ⟨xb, 0, none⟩) s xc), (82, .int .i64 (i : Int)), (83, .slice (some ⟨xb, 0, none⟩) s xc), (84, .int .i64 (i : Int)), (85, .pointer (some ⟨xb, i, none⟩)), (86, W8 x), (87, .slice (some ⟨ub, uo, none⟩) s cA), (88, .int .i64 (i : Int)), (89, .pointer (some ⟨ub, uo + i, none⟩)), (90, W8 y), (91, W8 (x ^^^ y)), (92, .pointer (some ⟨xb, i, none⟩))] (by kernel_rfl) (by kernel_rfl) (by kernel_rfl) (by kernel_rfl) (by first | rfl | simp) 12 (wr.setCell ⟨xb, i, none⟩ (W8 (x ^^^ y))) rfl (by kernel_rfl) ?ops18 ?last18 ?end18)
              case ops18 =>
                intro i o hi ho
                have hi2 : i = 0 ∨ i = 1 ∨ i = 2 ∨ i = 3 ∨ i = 4 ∨ i = 5 ∨ i = 6 ∨ i = 7 ∨ i = 8 ∨ i = 9 ∨ i = 10 ∨ i = 11 := by omega
                rcases hi2 with rfl | rfl | rfl | rfl | rfl | rfl | rfl | rfl | rfl | rfl | rfl | rfl
                all_goals
                  have ho' := ho
                  simp only [List.getElem?_toArray, List.getElem?_cons_zero, List.getElem?_cons_succ, Option.some.injEq] at ho'
                  subst ho'
                  refine ⟨(by intro c h; cases h), fun q => ⟨fun _ _ => trivial, ?_⟩⟩
                · exact .inl (by simp [execOp, evP, valP, Act.eval, List.lookup_cons])
                · exact .inl (by simp [execOp, evP, valP, Act.eval, List.lookup_cons])
                · exact .inl (by simp [execOp, evP, valP, Act.eval, List.lookup_cons])
                · exact .inl (by simp [execOp, evP, valP, Act.eval, List.lookup_cons])
                · exact .inl (by simp [execOp, evP, valP, Act.eval, List.lookup_cons, go_sem, cx, cy, kis, ki0, kx1, kx2, ku1, ku2, b8_xor])
                · exact .inl (by simp [execOp, evP, valP, Act.eval, List.lookup_cons, go_sem, cx, cy, kis, ki0, kx1, kx2, ku1, ku2, b8_xor])
                · exact .inl (by simp [execOp, evP, valP, Act.eval, List.lookup_cons])
                · exact .inl (by simp [execOp, evP, valP, Act.eval, List.lookup_cons])
                · exact .inl (by simp [execOp, evP, valP, Act.eval, List.lookup_cons, go_sem, cx, cy, kis, ki0, kx1, kx2, ku1, ku2, b8_xor])
                · exact .inl (by simp [execOp, evP, valP, Act.eval, List.lookup_cons, go_sem, cx, cy, kis, ki0, kx1, kx2, ku1, ku2, b8_xor])
                · exact .inl (by simp [execOp, evP, valP, Act.eval, List.lookup_cons, go_sem, cx, cy, kis, ki0, kx1, kx2, ku1, ku2, b8_xor])
                · exact .inl (by simp [execOp, evP, valP, Act.eval, List.lookup_cons, go_sem, cx, cy, kis, ki0, kx1, kx2, ku1, ku2, b8_xor])
              case last18 =>
                intro o ho
                have ho' := ho
                simp only [List.getElem?_toArray, List.getElem?_cons_zero, List.getElem?_cons_succ, Option.some.injEq] at ho'
                subst ho'
                refine ⟨(by intro c h; cases h), fun q => ⟨fun _ _ => trivial, .inl ⟨?_, rfl⟩⟩⟩
                simp [execOp, evP, valP, Act.eval, List.lookup_cons, go_sem, cx, hfz, kis]
                try rfl
              case end18 =>
                intro q
                simp [wrote, valP, Act.put, List.lookup_cons]
                have hst2 := own_keep (w' := (wr.setCell ⟨xb, i, none⟩ (W8 (x ^^^ y))).drewN q) HST.out (fun q' _ => rfl)
                have HST2 := Lib.hid hst2
                clear hst2
                go_wp2
                go_roundw
                case rel => exact ⟨i + 1, by omega, by go_num, Lib.hid HST2.out, Lib.hid (OnlyV.drewN HOX.out _)⟩
                case measure => simp [intOf]; omega
            · obtain rfl : i = s := by omega
              have hfin := HOI.out
              rw [List.take_of_length_le (by rw [HTL.out]; exact Nat.le_refl _), List.drop_eq_nil_of_le (by rw [HTL.out]; exact Nat.le_refl _), List.append_nil] at hfin
              have HFI2 := Lib.hid hfin
              have hsl := HSA.out.onlyN HOV.out hubx (Nat.le_refl _)
              have HSL := Lib.hid (show SlV wr wr.heap.size (some ⟨ub, uo, none⟩) i cA ((U j1).map W8) from ⟨hsl.1, hsl.2.1, hsl.2.2.1, fun hne => by obtain ⟨b', o', e, hb', hc'⟩ := hsl.2.2.2 hne; exact ⟨b', o', e, by have := HOV.out.size; omega, hc'⟩⟩)
              have HBN := Lib.hid (HBA.out.trans (HOV.out.below (show wo.heap.size ≤ xb by omega) (by have := HBA.out.size; omega)))
              clear hfin hsl
              go_wp2
              go_roundw
              case rel => exact ⟨j1, cA, some ⟨ub, uo, none⟩, by have := HJ1.out; omega, by go_num, rfl, (by intro h; cases h), Lib.hid HSL.out, Lib.hid (fun a ha => by injection ha with ha; subst ha; exact hubx), Lib.hid HFI2.out, Lib.hid HBN.out⟩
              case measure => simp [intOf]; have := HJ1.out; omega
        · obtain rfl : j = R1 := by omega
          have kj : ¬ (j1 : Int) < R := by have := HRR.out; omega
          obtain ⟨wp, rfl⟩ : ∃ V, V = wr := ⟨_, rfl⟩
          have hpz := HBV.out.size
          obtain ⟨Ax, cx, ex, hsx, _, _⟩ := SlV.of_own' HTV.out
          injection ex with ex1 ex2 ex3
          subst ex1
          subst ex3
          rw [HTF.out] at hsx
          have how := own_keep HO.out (fun q hq => HBV.out.block q (HO.out.lt q hq).2)
          have hone := ones8 (f ii)
          have hmm : m + s ≤ 17592186044416 := by omega
          have hwp : w.heap.size ≤ wp.heap.size := by omega
          have HOW := Lib.hid how
          have HSX := Lib.hid hsx
          have HBP := Lib.hid (HB.out.trans (HBV.out.mono hw0))
          have t1 := HOW.out
          have t2 := HSX.out
          clear hsx how
          go_wp2_with (at_builtin; refine wlv_append Tryd.elem8 rfl _ _ rfl w.heap.size _ m _ rfl t1 (some ⟨xb, 0, none⟩) s xc _ rfl (by intro h; cases h) _ t2 hone hmm hwp ?_; intro v9 w9 hown9 hgr9; obtain ⟨A9, c9, rfl⟩ := own_form hown9; have HO9 := Lib.hid hown9; have HB9 := Lib.hid (HBP.out.grown hgr9 hwp (fun q hq => (t1.lt q hq).1)); clear hown9 hgr9)
          go_roundw
          case rel =>
            have hms : s * i1 = m + s := by rw [← HI1.out, Nat.mul_succ, HM.out]
            have hii := HI1.out
            refine ⟨i1, by omega, by omega, rfl, c9, A9, ⟨rfl, hms.symm, rfl⟩, ?_⟩
            rw [hms, ← HI1.out, seqL, List.map_append]
            exact Lib.hid HO9.out
          case measure => first | omega | (simp; omega)
    · have kmN : ¬ (m : Int) < N := by omega
      obtain ⟨g, c3, e2, hbg, hsl⟩ := own_form0 HO.out (by omega)
      injection e2 with e2 e3 e4
      subst e2
      subst e4
      have hcap := hsl.cap
      have hmx2 := hsl.max
      have kc1 : (N : Int) ≤ c' := by omega
      have kc2 : (c' : Int) ≤ 9223372036854775807 := by omega
      have kN0 : (0 : Int) ≤ N := by omega
      have HSL := Lib.hid hsl
      have hfi := HFIN.out ii (by omega)
      have HFI := Lib.hid hfi
      clear hsl hfi hm hi1
      go_wp2
      go_ret
      exact ⟨_, rfl, FreshV.take_ HSL.out (by intro h; cases h) (by intro a e; injection e with e; subst e; exact hbg) N (by omega) HFI.out, HB.out⟩
end Go.Proofs.YtldheblkanimnaaDoor
