/- baileyref8: Enc1. -/
import Derived.Test.YtnpaidieijlkkaaDoorQPdS
import Derived.Test.YtnpaidieijlkkaaDoorQPdT
set_option linter.unusedVariables false
set_option linter.unusedSimpArgs false
namespace Go.Proofs.YtnpaidieijlkkaaDoor
open Go.RowKit Go.Shelf

/-- the bytes that are not zero -/
def nzL (l : List (BitVec 8)) : List (BitVec 8) := l.filter fun x => x != 0
/-- K bytes of l are taken: as many as it takes to have r that are not zero, or all of them -/
def FillEnd (l : List (BitVec 8)) (r K : Nat) : Prop := K ≤ l.length ∧ (∀ j, j < K → (nzL (l.take j)).length < r) ∧ ((nzL (l.take K)).length = r ∨ (K = l.length ∧ (nzL (l.take K)).length < r))
theorem nzL_step {l : List (BitVec 8)} {j : Nat} {x : BitVec 8} (h : l[j]? = some x) : nzL (l.take (j + 1)) = if x = 0 then nzL (l.take j) else nzL (l.take j) ++ [x] := by
  rw [List.take_add_one, h, nzL, List.filter_append]
  by_cases hx : x = 0
  · rw [if_pos hx, hx]
    simp [nzL]
  · rw [if_neg hx]
    have hb : (x != 0) = true := by simpa using hx
    simp only [nzL, Option.toList, List.filter_cons, hb, if_true, List.filter_nil]
theorem fillEnd_ex (l : List (BitVec 8)) (r : Nat) : ∃ K, FillEnd l r K := by
  have key : ∀ d j, l.length - j = d → j ≤ l.length → (∀ i, i < j → (nzL (l.take i)).length < r) → (nzL (l.take j)).length ≤ r → ∃ K, FillEnd l r K := by
    intro d
    induction d with
    | zero =>
      intro j hd hj h1 h2
      refine ⟨j, hj, h1, ?_⟩
      by_cases h : (nzL (l.take j)).length = r
      · exact .inl h
      · exact .inr ⟨by omega, by omega⟩
    | succ d ih =>
      intro j hd hj h1 h2
      by_cases h : (nzL (l.take j)).length = r
      · exact ⟨j, hj, h1, .inl h⟩
      · obtain ⟨x, hx⟩ : ∃ x, l[j]? = some x := ⟨_, List.getElem?_eq_getElem (by omega)⟩
        have hs := nzL_step hx
        refine ih (j + 1) (by omega) (by omega) (fun i hi => ?_) ?_
        · rcases Nat.lt_or_ge i j with h3 | h3
          · exact h1 i h3
          · obtain rfl : i = j := by omega
            omega
        · rw [hs]
          split
          · exact h2
          · rw [List.length_append, List.length_singleton]; omega
  exact key l.length 0 (by omega) (by omega) (fun i hi => by omega) (by simp [nzL])
set_option maxRecDepth 100000 in
theorem renc1_no1 (w : World) (n : Int) (v v2 : Value) (h : 65536 < n) :
    Calls Tryd.prog 24 #[.int .i64 n, v, v2] w fun e w' => e = .returned (.tuple #[.slice none 0 0, .int .i64 0, .int .i64 7]) ∧ w = w' := by
  go_enter Tryd.func24, Tryd.ntmps24
  go_wp2
  go_ret3
  exact ⟨rfl, rfl⟩
set_option maxRecDepth 100000 in
theorem renc1_no2 (w : World) (n : Int) (A : Option Addr) (m c : Nat) (v2 : Value) (h0 : -9223372036854775808 ≤ n) (h : n ≤ 65536) (h2 : n < 11 ∨ n - 11 < m) :
    Calls Tryd.prog 24 #[.int .i64 n, .slice A m c, v2] w fun e w' => e = .returned (.tuple #[.slice none 0 0, .int .i64 0, .int .i64 33]) ∧ w = w' := by
  have h65 : ¬ 65536 < n := by omega
  by_cases h3 : n < 11
  · clear h2
    go_enter Tryd.func24, Tryd.ntmps24
    go_wp2
    go_ret3
    exact ⟨rfl, rfl⟩
  · have h4 : n - 11 < m := by omega
    have h5 : 11 ≤ n := by omega
    clear h2 h3
    go_enter Tryd.func24, Tryd.ntmps24
    go_wp2
    go_ret3
    exact ⟨rfl, rfl⟩
def fillR (rb : List (BitVec 8)) (r K : Nat) : Int := if (nzL (rb.take K)).length = r then 0 else 5
def fillV (rb msg : List (BitVec 8)) (r K : Nat) : List (BitVec 8) := if (nzL (rb.take K)).length = r then frameW 2 (nzL (rb.take K)) msg else []
set_option maxRecDepth 100000 in
set_option maxHeartbeats 8000000 in
theorem renc1_run (w : World) (N : Nat) (hN2 : N ≤ 65536) (B : Nat) (A : Option Addr) (m c : Nat) (msg : List (BitVec 8)) (hs : SlV w B A m c (msg.map W8)) (hz : A = none → c = 0) (hB : B ≤ w.heap.size) (r : Nat) (hr : m + 3 + r = N) (hr8 : 8 ≤ r)
    (A2 : Option Addr) (n2 c2 : Nat) (rb : List (BitVec 8)) (h2 : SlV w B A2 n2 c2 (rb.map W8)) (hn2 : n2 ≤ 1000000) (K : Nat) (hK : FillEnd rb r K) :
    Calls Tryd.prog 24 #[.int .i64 (N : Int), .slice A m c, .slice A2 n2 c2] w fun e w' => ∃ v, e = .returned (.tuple #[v, .int .i64 (K : Int), .int .i64 (fillR rb r K)]) ∧ FreshV w' w.heap.size v (fillV rb msg r K) ∧ Below w.heap.size w w' := by
  have hl : msg.length = m := by simpa using hs.len.symm
  have hl2 : rb.length = n2 := by simpa using h2.len.symm
  have hKn := hK.1
  rw [hl2] at hKn
  have k1 : (N : Int) ≤ 65536 := by omega
  have k2 : (11 : Int) ≤ N := by omega
  have k3 : ¬ (N : Int) - 11 < m := by omega
  have k4 : (m : Int) ≤ (N : Int) - 11 := by omega
  have k5 : (N : Int) - 1 - m = (r : Int) + 2 := by omega
  have k6 : (r : Int) ≤ 65536 := by omega
  have k7 : (n2 : Int) ≤ 1000000 := by omega
  obtain ⟨W0, e0, ho0, b0⟩ := new2 w w.heap.size (Nat.le_refl _) 0 2 #[.int .u8 0, .int .u8 2] rfl
  obtain ⟨VV, hVV⟩ : ∃ l, fillV rb msg r K = l := ⟨_, rfl⟩
  obtain ⟨RR, hRR⟩ : ∃ l, fillR rb r K = l := ⟨_, rfl⟩
  rw [hVV, hRR]
  have HV := Lib.hid (⟨hVV, hRR⟩ : fillV rb msg r K = VV ∧ fillR rb r K = RR)
  have HS := Lib.hid (hs.more hB)
  have H2 := Lib.hid (h2.more hB)
  have HZ := Lib.hid hz
  have HN := Lib.hid (⟨hl, by omega, hl2⟩ : msg.length = m ∧ r + m + 3 ≤ 65536 ∧ rb.length = n2)
  have HKE := Lib.hid hK
  have HO0 := Lib.hid ho0
  have HB0 := Lib.hid b0
  clear hs hz hl hB hr hN2 ho0 b0 hl2 h2 hK hVV hRR
  go_enter Tryd.func24, Tryd.ntmps24
  go_wp2
  go_loopw [9, 10] (fun v i wr => ∃ (j L : Nat) (Ab : Option Addr) (cb : Nat), j ≤ K ∧ Hid ((nzL (rb.take j)).length = L) ∧ L ≤ r ∧ i = .int .i64 (j : Int) ∧ v = .slice Ab (2 + L) cb ∧ Hid (wr.ownsRow w.heap.size 5 1 (.slice Ab (2 + L) cb) (2 + L) (([0, 2] ++ nzL (rb.take j) : List (BitVec 8)).map W8)) ∧ Hid (Below w.heap.size w wr)) (fun _ i _ => K + 1 - (intOf i).toNat)
  case atStart => exact ⟨0, 0, _, 2, by omega, Lib.hid (by simp [nzL]), by omega, rfl, rfl, HO0, HB0⟩
  case round =>
    obtain ⟨j, L, Ab, cb, hj, HLL, hLr, rfl, rfl, HO, HB⟩ := hrel
    by_cases hjK : j = K
    · subst hjK
      by_cases hfull : L = r
      · subst hfull
        obtain rfl : RR = 0 := by rw [← HV.out.2, fillR, if_pos HLL.out]
        have hv := HV.out.1
        rw [fillV, if_pos HLL.out] at hv
        have HVV := Lib.hid hv
        have kj : ¬ (2 : Int) + L < L + 2 := by omega
        obtain ⟨W1, e1, so1, b1⟩ := new1 wr 0 #[.int .u8 0] rfl
        have ho1 := own_later_ HO.out b1
        have hb1 := HB.out.trans (b1.mono HB.out.size)
        have hz1 := hb1.size
        have hsz : 2 + L + 1 + m ≤ 17592186044416 := by have := HN.out; omega
        clear b1 hv
        go_wp2_with (first | (at_builtin; refine wlv_append Tryd.elem8 rfl _ _ rfl w.heap.size _ (2 + L) (([0, 2] ++ nzL (rb.take j) : List (BitVec 8)).map W8) rfl ho1 (some ⟨wr.heap.size, 0, none⟩) 1 1 _ rfl (fun x => by cases x) _ so1 (ones8 [0]) (by omega) hz1 ?_; intro v2 w2 hown2 hgr2; have hb2 := hb1.grown hgr2 hz1 (fun q hq => (ho1.lt q hq).1); rw [← List.map_append] at hown2; obtain ⟨A2', c2', rfl⟩ := own_slice hown2; have hz2 := hb2.size; have so2 := HS.out.below hb2; clear e1 ho1 so1 hb1 hgr2) | (at_builtin; refine wlv_append Tryd.elem8 rfl _ _ rfl w.heap.size _ (2 + L + 1) (([0, 2] ++ nzL (rb.take j) ++ [0] : List (BitVec 8)).map W8) rfl hown2 A m c _ rfl HZ.out _ so2 (ones8 msg) hsz hz2 ?_; intro v3 w3 hown3 hgr3; have hb3 := hb2.grown hgr3 hz2 (fun q hq => (hown2.lt q hq).1); rw [← List.map_append] at hown3; obtain ⟨A3, c3, rfl⟩ := own_slice hown3))
        go_ret3
        have e : ([0, 2] ++ nzL (rb.take j) ++ [0] ++ msg : List (BitVec 8)) = VV := by rw [← HVV.out]; simp [frameW]
        rw [e] at hown3
        exact ⟨_, rfl, FreshV.of_own hown3, hb3⟩
      · have hne : ¬ (nzL (rb.take j)).length = r := by rw [HLL.out]; exact hfull
        obtain rfl : RR = 5 := by rw [← HV.out.2, fillR, if_neg hne]
        obtain rfl : VV = [] := by rw [← HV.out.1, fillV, if_neg hne]
        have hjn : (j : Int) = n2 := by
          rcases HKE.out.2.2 with h | ⟨h, _⟩
          · exact absurd h hne
          · have := HN.out.2.2; omega
        have kj : (2 : Int) + L < r + 2 := by omega
        have kn : (n2 : Int) ≤ j := by omega
        have HB' := HB
        clear hne hfull
        go_wp2
        go_ret3
        exact ⟨_, rfl, FreshV.nil_ _ _, HB'.out⟩
    · have hLt : L < r := by have := HKE.out.2.1 j (by omega); rw [HLL.out] at this; exact this
      have kj : (2 : Int) + L < r + 2 := by omega
      have kn : (j : Int) < n2 := by omega
      obtain ⟨x, hx⟩ : ∃ x, rb[j]? = some x := ⟨_, List.getElem?_eq_getElem (by have := HN.out; omega)⟩
      obtain ⟨b2, o2, rfl, _, hcx⟩ := (H2.out.below HB.out).byte hx
      have hst := nzL_step hx
      by_cases hx0 : x = 0
      · rw [if_pos hx0] at hst
        subst hx0
        have hcx' : wr.cell? ⟨b2, o2 + j, none⟩ = some (.int .u8 0) := hcx
        have HST := Lib.hid hst
        clear hst hx hcx
        go_wp2
        go_roundw
        case rel => exact ⟨j + 1, L, Ab, cb, by omega, Lib.hid (by rw [HST.out]; exact HLL.out), by omega, by go_num, rfl, Lib.hid (by rw [HST.out]; exact HO.out), HB⟩
        case measure => simp [intOf]; omega
      · rw [if_neg hx0] at hst
        have kx : (i8 x != 0) = true := by simpa using (show ¬ i8 x = (0 : Int) from fun h => hx0 (by unfold i8 at h; exact BitVec.eq_of_toNat_eq (by simpa using h)))
        obtain ⟨W1, e1, so1, b1⟩ := new1 wr x #[W8 x] rfl
        have ho1 := own_later_ HO.out b1
        have hb1 := HB.out.trans (b1.mono HB.out.size)
        have hz1 := hb1.size
        have hsz : 2 + L + 1 ≤ 17592186044416 := by have := HN.out; omega
        have HST := Lib.hid hst
        clear b1 hst hx
        go_wp2_with (at_builtin; refine wlv_append Tryd.elem8 rfl _ _ rfl w.heap.size _ (2 + L) (([0, 2] ++ nzL (rb.take j) : List (BitVec 8)).map W8) rfl ho1 (some ⟨wr.heap.size, 0, none⟩) 1 1 _ rfl (fun x => by cases x) _ so1 (ones8 [x]) hsz hz1 ?_; intro v2 w2 hown2 hgr2; have hb2 := hb1.grown hgr2 hz1 (fun q hq => (ho1.lt q hq).1); rw [← List.map_append, List.append_assoc, ← HST.out] at hown2; obtain ⟨A2', c2', rfl⟩ := own_slice hown2; clear e1 ho1 so1 hb1 hgr2)
        go_roundw
        case rel => exact ⟨j + 1, L + 1, A2', c2', by omega, Lib.hid (by rw [HST.out, List.length_append, HLL.out]; rfl), by omega, by go_num, rfl, Lib.hid hown2, Lib.hid hb2⟩
        case measure => simp [intOf]; omega
end Go.Proofs.YtnpaidieijlkkaaDoor
