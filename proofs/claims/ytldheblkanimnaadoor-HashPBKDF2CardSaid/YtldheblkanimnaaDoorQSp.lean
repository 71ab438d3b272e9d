/- baileyref3: MGF1. -/
import Derived.Test.YtldheblkanimnaaDoorPileB9
set_option linter.unusedVariables false
set_option linter.unusedSimpArgs false
namespace Go.Proofs.YtldheblkanimnaaDoor
open Go.RowKit Go.Shelf

set_option maxRecDepth 100000 in
set_option maxHeartbeats 4000000 in
theorem rmgf_any (w : World) (k : Int) (hk : KindOk k) (B : Nat) (A : Option Addr) (n c : Nat) (seed : List (BitVec 8)) (hs : SlV w B A n c (seed.map W8)) (hz : A = none → c = 0) (hB : B ≤ w.heap.size) (hn : n ≤ 1000) (N : Nat) (hN1 : 1 ≤ N) (hN2 : N ≤ 65536) :
    Calls Tryd.prog 25 #[.int .i64 k, .slice A n c, .int .i64 (N : Int)] w fun e w' => ∃ v, e = .returned v ∧ FreshV w' w.heap.size v (mgfL k seed N) ∧ Below w.heap.size w w' := by
  have hl : n = seed.length := by simpa using hs.len
  obtain ⟨s, hs0⟩ : ∃ s, szN k = s := ⟨_, rfl⟩
  have hs1 : 20 ≤ s ∧ s ≤ 64 := by have := szN_le hk; omega
  have ks : ¬ (s : Int) = 0 := by omega
  have kN1 : ¬ (N : Int) < 1 := by omega
  have kN2 : ¬ 65536 < (N : Int) := by omega
  have b1 : ((s : Int) == 0) = false := by simpa using ks
  have b2 : decide ((N : Int) < 1) = false := by simpa using kN1
  have b3 : decide (65536 < (N : Int)) = false := by simpa using kN2
  have hsz := rsize_any w k
  rw [szN_eq hk, hs0] at hsz
  obtain ⟨f, hf⟩ : ∃ f : Nat → List (BitVec 8), (fun i => sumL k (seed ++ counterL i)) = f := ⟨_, rfl⟩
  have hfl : ∀ j, (f j).length = s := fun j => by rw [← hf, ← hs0]; exact sumL_length _ _
  have hfin : ∀ j, N ≤ s * j → (seqL f j).take N = mgfL k seed N := fun j hj => by rw [fillL_eq f s hfl (by omega) N j hj, ← hf]; rfl
  have own0 : w.ownsRow w.heap.size 5 1 (.slice none 0 0) (s * 0) ((seqL f 0).map W8) := World.ownsRow_nil _ _ _ _
  have HSZ := Lib.hid hsz
  have HS := Lib.hid hs
  have HK := Lib.hid hk
  have HF := Lib.hid hf
  have HFL := Lib.hid hfl
  have HFIN := Lib.hid hfin
  have HO0 := Lib.hid own0
  have HL := Lib.hid hl
  clear hsz hs hk hf hfl hfin own0 hs0 hl
  go_enter Tryd.func25, Tryd.ntmps25
  go_wp2_with fail
  refine HSZ.out.mono ?_
  rintro e w' ⟨rfl, rfl⟩
  go_wp2
  go_loopw [8, 9] (fun tv iv W => ∃ (i c' : Nat) (A' : Option Addr), i ≤ 65536 ∧ s * i ≤ N + 64 ∧ iv = .int .i64 (i : Int) ∧ tv = .slice A' (s * i) c' ∧ Hid (W.ownsRow w.heap.size 5 1 (.slice A' (s * i) c') (s * i) ((seqL f i).map W8)) ∧ Hid (Below w.heap.size w W)) (fun tv _ _ => match tv with | .slice _ n _ => N - n | _ => 0)
  case atStart => exact ⟨0, 0, none, Nat.zero_le _, by omega, rfl, rfl, Lib.hid HO0.out, Lib.hid (Below.refl _ _)⟩
  case round =>
    obtain ⟨i, c', A', hi, hsi, rfl, rfl, HO, HB⟩ := hrel
    obtain ⟨m, hm⟩ : ∃ m, s * i = m := ⟨_, rfl⟩
    have hmi : i ≤ m := by rw [← hm]; exact Nat.le_mul_of_pos_left i (by omega)
    rw [hm] at HO hsi
    rw [hm]
    by_cases hmN : m < N
    · have kmN : (m : Int) < N := by omega
      obtain ⟨wo, rfl⟩ : ∃ V, V = wr := ⟨_, rfl⟩
      have h4 := rfour_any wo i (by omega)
      have H4 := Lib.hid h4
      have HM := Lib.hid hm
      clear h4 hm
      go_wp2_with fail
      refine H4.out.mono ?_
      rintro e w4 ⟨rfl, hr4, hb4⟩
      have hw0 := HB.out.size
      have hV : Below wo.heap.size wo (w4.alloc (.cells #[.slice A n c, .slice (some ⟨wo.heap.size, 0, none⟩) 4 4] 22)) := hb4.alloc hb4.size _
      have hrV : RowV 22 (w4.alloc (.cells #[.slice A n c, .slice (some ⟨wo.heap.size, 0, none⟩) 4 4] 22)) w4.heap.size [.slice A n c, .slice (some ⟨wo.heap.size, 0, none⟩) 4 4] := RowV.new w4 22 _
      have hr4V := hr4.later ((Below.refl w4.heap.size w4).alloc (Nat.le_refl _) (.cells #[.slice A n c, .slice (some ⟨wo.heap.size, 0, none⟩) 4 4] 22))
      obtain ⟨V, hVe⟩ : ∃ V, w4.alloc (.cells #[.slice A n c, .slice (some ⟨wo.heap.size, 0, none⟩) 4 4] 22) = V := ⟨_, rfl⟩
      rw [hVe] at hV hrV hr4V
      have hsV := HS.out.below ((HB.out.trans (hV.mono hw0)).mono hB)
      have hz4 := hb4.size
      have hlt4 := hrV.lt
      have lift : SlV V V.heap.size A n c (seed.map W8) := ⟨hsV.1, hsV.2.1, hsV.2.2.1, fun hne => by obtain ⟨b', o', e, hb', hc'⟩ := hsV.2.2.2 hne; exact ⟨b', o', e, by omega, hc'⟩⟩
      have hs4 : SlV V V.heap.size (some ⟨wo.heap.size, 0, none⟩) 4 4 ((counterL i).map W8) := by
        have := hr4V.sl (by simp [counterL_length])
        rwa [List.length_map, counterL_length] at this
      have hj := rjoin_any V V.heap.size (some ⟨w4.heap.size, 0, none⟩) 2 2 [seed, counterL i] (PartsV.two hrV lift hz hs4 (by intro h; cases h) hlt4) (Nat.le_refl _) (by decide) (by simp [counterL_length]; have := HL.out; omega)
      rw [show [seed, counterL i].flatten = seed ++ counterL i by simp] at hj
      obtain ⟨js, hjs⟩ : ∃ l, seed ++ counterL i = l := ⟨_, rfl⟩
      obtain ⟨jl, hjl⟩ : ∃ l, js.length = l := ⟨_, rfl⟩
      have hjb : jl ≤ 2000 := by rw [← hjl, ← hjs, List.length_append, counterL_length]; have := HL.out; omega
      have hfi : sumL k js = f i := by rw [← hjs, ← HF.out]
      rw [hjs, hjl] at hj
      have HFI := Lib.hid hfi
      have HJ := Lib.hid hj
      have HV := Lib.hid hV
      have HVE := Lib.hid hVe
      clear hr4 hb4 hV hrV hr4V hsV lift hs4 hj hVe hjs hjl hfi
      go_wp2_with fail
      rw [HVE.out]
      refine HJ.out.mono ?_
      rintro e w5 ⟨v5, rfl, ho5, hb5⟩
      obtain ⟨A5, c5, rfl, hs5, _, hz5⟩ := SlV.of_own' ho5
      have hof := rof_any w5 k HK.out _ A5 _ c5 _ hs5 hz5 (Nat.le_refl _) (by omega)
      rw [HFI.out] at hof
      have HOF := Lib.hid hof
      have hb05 : Below wo.heap.size wo w5 := HV.out.trans (hb5.mono HV.out.size)
      have HB05 := Lib.hid hb05
      clear ho5 hb5 hs5 hof hb05
      go_wp2_with fail
      refine HOF.out.mono ?_
      rintro e w6 ⟨v6, rfl, hfr, hb6⟩
      obtain ⟨A6, c6, rfl, hs6, hz6, _⟩ := hfr
      rw [HFL.out] at hs6 ⊢
      have hb06 := HB05.out.trans (hb6.mono HB05.out.size)
      have how := own_keep HO.out (fun q hq => hb06.block q (HO.out.lt q hq).2)
      have hone := ones8 (f i)
      have hmm : m + s ≤ 17592186044416 := by omega
      have hw6 : w.heap.size ≤ w6.heap.size := by have := hb06.size; omega
      have HS6 := Lib.hid hs6
      have HOW := Lib.hid how
      have HB06 := Lib.hid (HB.out.trans (hb06.mono hw0))
      clear hs6 hb6 hb06 how
      have t1 := HOW.out
      have t2 := HS6.out
      go_wp2_with (at_builtin; refine wlv_append Tryd.elem8 rfl _ _ rfl w.heap.size _ m _ rfl t1 A6 s c6 _ rfl hz6 _ t2 hone hmm hw6 ?_; intro v7 w7 hown7 hgr7; obtain ⟨A7, c7, rfl⟩ := own_form hown7; have HO7 := Lib.hid hown7; have HB7 := Lib.hid (HB06.out.grown hgr7 hw6 (fun q hq => (t1.lt q hq).1)); clear hown7 hgr7)
      go_roundw
      case rel =>
        have hms : s * (i + 1) = m + s := by rw [Nat.mul_succ, HM.out]
        refine ⟨i + 1, c7, A7, by omega, by omega, by go_num, by rw [hms], ?_, Lib.hid HB7.out⟩
        rw [hms, seqL, List.map_append]
        exact Lib.hid HO7.out
      case measure => simp; omega
    · have kmN : ¬ (m : Int) < N := by omega
      obtain ⟨g, c2, e2, hbg, hsl⟩ := own_form0 HO.out (by omega)
      injection e2 with e2 e3 e4
      subst e2
      subst e4
      have hcap := hsl.cap
      have hmx := hsl.max
      have kc1 : (N : Int) ≤ c' := by omega
      have kc2 : (c' : Int) ≤ 9223372036854775807 := by omega
      have kN0 : (0 : Int) ≤ N := by omega
      have HSL := Lib.hid hsl
      have hfi := HFIN.out i (by omega)
      have HFI := Lib.hid hfi
      clear hsl hfi hm
      go_wp2
      go_ret
      exact ⟨_, rfl, FreshV.take_ HSL.out (by intro h; cases h) (by intro a e; injection e with e; subst e; exact hbg) N (by omega) HFI.out, HB.out⟩
theorem rmgf_no (w : World) (k : Int) (v1 : Value) (N : Int) (h : KindOk k → N < 1 ∨ 65536 < N) :
    Calls Tryd.prog 25 #[.int .i64 k, v1, .int .i64 N] w fun e w' => e = .returned (.slice none 0 0) ∧ w = w' := by
  have hsz := rsize_any w k
  by_cases hk : KindOk k
  · have hp := sizeV_pos hk
    obtain ⟨s, hs⟩ : ∃ s, sizeV k = s := ⟨_, rfl⟩
    rw [hs] at hsz hp
    have ks : ¬ s = 0 := by omega
    have b1 : (s == 0) = false := by simpa using ks
    have HSZ := Lib.hid hsz
    have hN := h hk
    clear hsz hs hk h hp
    by_cases h1 : N < 1
    · clear hN
      have b2 : decide (N < 1) = true := by simpa using h1
      go_enter Tryd.func25, Tryd.ntmps25
      go_wp2_with fail
      refine HSZ.out.mono ?_
      rintro e w' ⟨rfl, rfl⟩
      go_wp2
      go_ret
      exact ⟨rfl, rfl⟩
    · have h2 : 65536 < N := by omega
      have b2 : decide (N < 1) = false := by simpa using h1
      have b3 : decide (65536 < N) = true := by simpa using h2
      clear hN
      go_enter Tryd.func25, Tryd.ntmps25
      go_wp2_with fail
      refine HSZ.out.mono ?_
      rintro e w' ⟨rfl, rfl⟩
      go_wp2
      go_ret
      exact ⟨rfl, rfl⟩
  · rw [sizeV_no hk] at hsz
    have HSZ := Lib.hid hsz
    clear hsz h hk
    go_enter Tryd.func25, Tryd.ntmps25
    go_wp2_with fail
    refine HSZ.out.mono ?_
    rintro e w' ⟨rfl, rfl⟩
    go_wp2
    go_ret
    exact ⟨rfl, rfl⟩
/-- the mask; nothing where the document gives nothing -/
def mgfK (k : Int) (seed : List (BitVec 8)) (N : Int) : List (BitVec 8) := if (1 ≤ k ∧ k ≤ 5) ∧ 1 ≤ N ∧ N ≤ 65536 then mgfL k seed N.toNat else []
theorem mgfK_any (w : World) (k : Int) (hGS : StartsG w) (hGR : RootsG w) (B : Nat) (A : Option Addr) (n c : Nat) (seed : List (BitVec 8)) (hs : SlV w B A n c (seed.map W8)) (hz : A = none → c = 0) (hB : B ≤ w.heap.size) (hn : n + 512 ≤ 17592186044416) (N : Int) :
    Calls Tryd.prog 24 #[.int .i64 k, .slice A n c, .int .i64 N] w fun e w' => ∃ v, e = .returned v ∧ FreshV w' w.heap.size v (mgfK k seed N) ∧ Below w.heap.size w w' := by
  by_cases h : (1 ≤ k ∧ k ≤ 5) ∧ 1 ≤ N ∧ N ≤ 65536
  · obtain ⟨M, rfl⟩ : ∃ M : Nat, N = (M : Int) := ⟨N.toNat, by omega⟩
    refine (mgf_any w k h.1 hGS hGR B A n c seed hs hz hB hn M (by omega) (by omega)).mono ?_
    rintro e w' ⟨v, rfl, ho, hb⟩
    refine ⟨v, rfl, ?_, hb⟩
    rw [mgfK, if_pos h, Int.toNat_natCast]
    exact FreshV.of_own ho
  · refine (mgf_no w k A n c N (fun hk => by have hk' : 1 ≤ k ∧ k ≤ 5 := hk; omega)).mono ?_
    rintro e w' ⟨rfl, hb⟩
    refine ⟨_, rfl, ?_, hb⟩
    rw [mgfK, if_neg h]
    exact FreshV.nil_ _ _
theorem rmgfK_any (w : World) (k : Int) (B : Nat) (A : Option Addr) (n c : Nat) (seed : List (BitVec 8)) (hs : SlV w B A n c (seed.map W8)) (hz : A = none → c = 0) (hB : B ≤ w.heap.size) (hn : n ≤ 1000) (N : Int) :
    Calls Tryd.prog 25 #[.int .i64 k, .slice A n c, .int .i64 N] w fun e w' => ∃ v, e = .returned v ∧ FreshV w' w.heap.size v (mgfK k seed N) ∧ Below w.heap.size w w' := by
  by_cases h : (1 ≤ k ∧ k ≤ 5) ∧ 1 ≤ N ∧ N ≤ 65536
  · obtain ⟨M, rfl⟩ : ∃ M : Nat, N = (M : Int) := ⟨N.toNat, by omega⟩
    refine (rmgf_any w k h.1 B A n c seed hs hz hB hn M (by omega) (by omega)).mono ?_
    rintro e w' ⟨v, rfl, ho, hb⟩
    refine ⟨v, rfl, ?_, hb⟩
    rw [mgfK, if_pos h, Int.toNat_natCast]
    exact ho
  · refine (rmgf_no w k _ N (fun hk => by have hk' : 1 ≤ k ∧ k ≤ 5 := hk; omega)).mono ?_
    rintro e w' ⟨rfl, rfl⟩
    refine ⟨_, rfl, ?_, Below.refl _ _⟩
    rw [mgfK, if_neg h]
    exact FreshV.nil_ _ _
end Go.Proofs.YtldheblkanimnaaDoor
