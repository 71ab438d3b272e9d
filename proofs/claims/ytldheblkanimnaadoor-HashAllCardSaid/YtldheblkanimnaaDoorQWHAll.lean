/- HashAll, walked. -/
import Derived.Test.YtldheblkanimnaaDoorPileB9
import Derived.StillTail
set_option linter.unusedVariables false
set_option linter.unusedSimpArgs false
namespace Go.Proofs.YtldheblkanimnaaDoor
open Go.RowKit Go.Shelf
attribute [local go_sem] shutOp

/-- 'b[k:]', wherever b lies -/
theorem SlV.drop_any {w : World} {B n c k : Nat} {a : Addr} {vs : List Value} (h : SlV w B (some a) n c vs) (hk : k ≤ n) : SlV w B (some (a.add k)) (n - k) (c - k) (vs.drop k) := by
  by_cases hn : k = n
  · have e : vs.drop k = [] := List.drop_eq_nil_of_le (by have := h.len; omega)
    rw [e, hn, Nat.sub_self]
    exact SlV.nil _ _ _ (by have := h.max; omega)
  · obtain ⟨b, off, e, _, _⟩ := h.2.2.2 (by intro e; have := h.len; rw [e] at this; simp at this; omega)
    injection e with e
    subst e
    rw [Addr.add_lit]
    exact h.drop (by omega)
theorem SlV.full_ {w : World} {B n k : Nat} {a : Addr} {vs : List Value} (h : SlV w B (some a) n k vs) (hk : n = k) : SlV w B (some a) 0 0 (vs.drop k) := by
  rw [List.drop_eq_nil_of_le (by have := h.len; omega)]
  exact SlV.nil _ _ _ (by decide)

set_option maxRecDepth 100000 in
set_option maxHeartbeats 8000000 in
theorem hall_walk (w : World) (hGS : StartsG w) (hGR : RootsG w) (k : Int) (A : Option Addr) (n c : Nat) (bs : List (BitVec 8)) (hs : SlV w w.heap.size A n c (bs.map W8)) (hz : A = none → c = 0) (m : Int) (hm1 : -9223372036854775808 ≤ m) (hm2 : m ≤ 9223372036854775807) :
    Calls Tryd.prog 3 #[.int .i64 k, .slice A n c, .int .i64 m] w fun e w' => e = .returned (.bool true) ∧ Below w.heap.size w w' := by
  obtain ⟨b0, hb0⟩ : ∃ b, w.heap.size = b := ⟨_, rfl⟩
  have hbg := begun3_any w hGS hGR
  rw [hb0] at hbg hs ⊢
  have HBG := Lib.hid hbg
  have HG := Lib.hid (⟨hGS, hGR⟩ : StartsG w ∧ RootsG w)
  have HS := Lib.hid hs
  have HB0 := Lib.hid hb0
  clear hbg hGS hGR hs hb0
  go_enter Tryd.func3, Tryd.ntmps3
  go_wp2_with fail
  refine HBG.out.mono ?_
  rintro e w1 ⟨rfl, hb1⟩
  have hs1 := HS.out.below hb1
  have hG1 : StartsG w1 ∧ RootsG w1 := by
    rw [← HB0.out] at hb1
    exact ⟨HG.out.1.later hb1, HG.out.2.later hb1⟩
  have sh1 := short_any w1 _ _ _ _ _ hs1 600 (by decide)
  have ht1 := short_sl (m := 600) hs1
  obtain ⟨nn, hnn⟩ : ∃ m, min n 600 = m := ⟨_, rfl⟩
  obtain ⟨q, hq⟩ : ∃ q, bs.take 600 = q := ⟨_, rfl⟩
  rw [hnn] at sh1 ht1
  rw [hq] at ht1
  have hn6 : nn ≤ 600 := by omega
  have hl : nn = q.length := by simpa using ht1.len
  have hb0w : b0 ≤ w1.heap.size := by have := HB0.out; have := hb1.size; omega
  obtain ⟨D, hD⟩ : ∃ D, sumK k q = D := ⟨_, rfl⟩
  have hof : ∀ A1 n1 c1 p1 A2 n2 c2 p2, SlV w1 b0 A1 n1 c1 (p1.map W8) → (A1 = none → c1 = 0) → SlV w1 b0 A2 n2 c2 (p2.map W8) → (A2 = none → c2 = 0) → p1 ++ p2 = q → Calls Tryd.prog 12 #[.int .i64 k, .slice (some ⟨w1.heap.size, 0, none⟩) 2 2] (w1.alloc (.cells #[.slice A1 n1 c1, .slice A2 n2 c2] 22)).drew fun e w' => ∃ A' c', e = .returned (.slice A' D.length c') ∧ SlV w' w'.heap.size A' D.length c' (D.map W8) ∧ Below w1.heap.size w1 w' := by
    intro A1 n1 c1 p1 A2 n2 c2 p2 h1 z1 h2 z2 hp
    have hbv : Below w1.heap.size w1 (w1.alloc (.cells #[.slice A1 n1 c1, .slice A2 n2 c2] 22)).drew := ((Below.refl _ _).alloc (Nat.le_refl _) _).drew
    have hr : RowV 22 (w1.alloc (.cells #[.slice A1 n1 c1, .slice A2 n2 c2] 22)).drew w1.heap.size [.slice A1 n1 c1, .slice A2 n2 c2] := RowV.new w1 22 [.slice A1 n1 c1, .slice A2 n2 c2]
    obtain ⟨V, hV⟩ : ∃ V, (w1.alloc (.cells #[.slice A1 n1 c1, .slice A2 n2 c2] 22)).drew = V := ⟨_, rfl⟩
    rw [hV] at hbv hr ⊢
    have hw := hr.lt
    have lift : ∀ {A n c p}, SlV w1 b0 A n c p → SlV V V.heap.size A n c p := fun {A n c p} h => by
      have h0 := h.below (hbv.mono hb0w)
      exact ⟨h0.1, h0.2.1, h0.2.2.1, fun hne => by obtain ⟨b', o', e, hb', hc'⟩ := h0.2.2.2 hne; exact ⟨b', o', e, by omega, hc'⟩⟩
    have h := hofK_any V k (hG1.1.later hbv) (hG1.2.later hbv) V.heap.size (some ⟨w1.heap.size, 0, none⟩) 2 2 [p1, p2] (PartsV.two hr (lift h1) z1 (lift h2) z2 hr.lt) (Nat.le_refl _) (by decide) (by
      rw [show [p1, p2].flatten = p1 ++ p2 by simp, hp]; omega)
    rw [show [p1, p2].flatten = q by rw [← hp]; simp, hD] at h
    refine h.mono ?_
    rintro e w' ⟨v, rfl, ⟨A', c', rfl, h1, _, _⟩, h2⟩
    exact ⟨A', c', rfl, h1, hbv.trans (h2.mono hbv.size)⟩
  have hR : ∀ (W : World), Below w1.heap.size w1 W → Calls Tryd.prog 13 #[.int .i64 k, .slice A nn c] W fun e w' => ∃ A' c', e = .returned (.slice A' D.length c') ∧ SlV w' w'.heap.size A' D.length c' (D.map W8) ∧ Below W.heap.size W w' := fun W hW => by
    have h := rofK_any W k b0 A nn c q (ht1.below (hW.mono hb0w)) hz (Nat.le_trans hb0w hW.size) (by omega)
    rw [hD] at h
    refine h.mono ?_
    rintro e w' ⟨v, rfl, ⟨A', c', rfl, h1, _, _⟩, h2⟩
    exact ⟨A', c', rfl, h1, h2⟩
  obtain ⟨sv, hsv⟩ : ∃ s, sizeV k = s := ⟨_, rfl⟩
  obtain ⟨bv, hbv⟩ : ∃ s, blockV k = s := ⟨_, rfl⟩
  have z1 := fun W => size_any W k
  have z2 := fun W => rsize_any W k
  have z3 := fun W => block_any W k
  have z4 := fun W => rblock_any W k
  simp only [hsv] at z1 z2
  simp only [hbv] at z3 z4
  have SH1 := Lib.hid sh1
  have HT := Lib.hid ht1
  have HB1 := Lib.hid hb1
  have HOF := Lib.hid hof
  have HR := Lib.hid hR
  have Z1 := Lib.hid z1
  have Z2 := Lib.hid z2
  have Z3 := Lib.hid z3
  have Z4 := Lib.hid z4
  have e1 := fun (w : World) (t : TypeId) (x y : Operand) (a b : List (BitVec 8)) => eqGuard_str (P := Tryd.prog) w .eql t x y a b
  have e2 : ∀ w', (binOp .eql 9 (strV D) (strV D)).run Tryd.prog w' = .ok (.bool true) w' := fun w' => by
    rw [eql_str w' _ D D, decide_eq_true rfl]
  have hcap : nn ≤ c := ht1.cap
  have kcap : (nn : Int) ≤ c := by omega
  have hmaxc := ht1.max
  have kmax : (c : Int) ≤ 9223372036854775807 := by omega
  have kn6 : (nn : Int) ≤ 600 := by omega
  clear hb1 hs1 hG1 sh1 ht1 hnn hq hof hR hD hl hsv hbv z1 z2 z3 z4
  go_wp2_with fail
  refine SH1.out.mono ?_
  rintro e w' ⟨rfl, rfl⟩
  obtain ⟨kk, hkk, hdec⟩ : ∃ kk : Nat, kk ≤ nn ∧ ((m < 0 ∧ kk = nn) ∨ (¬ m < 0 ∧ (nn : Int) < m ∧ kk = nn) ∨ (¬ m < 0 ∧ ¬ (nn : Int) < m ∧ m = (kk : Int))) := by
    by_cases h1 : m < 0
    · exact ⟨nn, Nat.le_refl _, .inl ⟨h1, rfl⟩⟩
    · by_cases h2 : (nn : Int) < m
      · exact ⟨nn, Nat.le_refl _, .inr (.inl ⟨h1, h2, rfl⟩)⟩
      · exact ⟨m.toNat, by omega, .inr (.inr ⟨h1, h2, by omega⟩)⟩
  have hp : q.take kk ++ q.drop kk = q := List.take_append_drop _ _
  have hs1' := HT.out.take (k := kk) hkk
  rw [← List.map_take] at hs1'
  have hkc3 : kk ≤ c := by omega
  have hkc4 : (kk : Int) ≤ c := by omega
  have hkn4 : (kk : Int) ≤ nn := by omega
  have HS1 := Lib.hid hs1'
  have HPP := Lib.hid hp
  clear hp hs1'
  cases A with
  | none =>
    have hc0 : c = 0 := hz rfl
    subst hc0
    obtain rfl : nn = 0 := by omega
    obtain rfl : kk = 0 := by omega
    obtain rfl : q = [] := by have := HT.out.len; rw [List.length_map] at this; exact List.eq_nil_of_length_eq_zero this.symm
    rcases hdec with ⟨d1, _⟩ | ⟨d1, d2, _⟩ | ⟨d1, d2, rfl⟩
    · go_wp2_with fail
      go_region_held3 (fun _ => True) (trivial)
        (first | (go_at_call 12; (with_reducible refine (HOF.out _ _ _ _ _ _ _ _ HS1.out (fun _ => rfl) (SlV.nil _ _ _ (by decide)) (fun _ => rfl) HPP.out).mono ?_); rintro e w6 ⟨A6, c6, rfl, hs6, hb6⟩; have cv6 := FreshV.conv hs6 (Below.refl _ w6).drew; have hb16 : Below w1.heap.size w1 w6.drew := hb6.drew; have HB16 := Lib.hid hb16))
      all_goals
        go_wp2_with fail
        rw [shut_conv (some 34), shut_conv (some 38)]
        go_region_held3 (fun _ => True) (trivial)
          (first | (go_at_call 13; (with_reducible refine (HR.out _ HB16.out).mono ?_); rintro e w7 ⟨A7, c7, rfl, hs7, hb7⟩; have hb17 := HB16.out.trans (hb7.mono HB16.out.size); have cv7 := FreshV.conv hs7 (Below.refl _ _); have cv6' := FreshV.conv hs6 ((Below.refl _ w6).drew.trans hb7)) | (go_at_call 14; (with_reducible refine (Z1.out _).mono ?_); rintro e w' ⟨rfl, rfl⟩) | (go_at_call 15; (with_reducible refine (Z2.out _).mono ?_); rintro e w' ⟨rfl, rfl⟩) | (go_at_call 16; (with_reducible refine (Z3.out _).mono ?_); rintro e w' ⟨rfl, rfl⟩) | (go_at_call 17; (with_reducible refine (Z4.out _).mono ?_); rintro e w' ⟨rfl, rfl⟩))
        all_goals
          have HFIN := Lib.hid (HB1.out.trans (hb17.mono hb0w))
          clear hb17 hb16
          go_wp2
          go_ret
          exact ⟨rfl, HFIN.out⟩
    · go_wp2_with fail
      go_region_held3 (fun _ => True) (trivial)
        (first | (go_at_call 12; (with_reducible refine (HOF.out _ _ _ _ _ _ _ _ HS1.out (fun _ => rfl) (SlV.nil _ _ _ (by decide)) (fun _ => rfl) HPP.out).mono ?_); rintro e w6 ⟨A6, c6, rfl, hs6, hb6⟩; have cv6 := FreshV.conv hs6 (Below.refl _ w6).drew; have hb16 : Below w1.heap.size w1 w6.drew := hb6.drew; have HB16 := Lib.hid hb16))
      all_goals
        go_wp2_with fail
        rw [shut_conv (some 34), shut_conv (some 38)]
        go_region_held3 (fun _ => True) (trivial)
          (first | (go_at_call 13; (with_reducible refine (HR.out _ HB16.out).mono ?_); rintro e w7 ⟨A7, c7, rfl, hs7, hb7⟩; have hb17 := HB16.out.trans (hb7.mono HB16.out.size); have cv7 := FreshV.conv hs7 (Below.refl _ _); have cv6' := FreshV.conv hs6 ((Below.refl _ w6).drew.trans hb7)) | (go_at_call 14; (with_reducible refine (Z1.out _).mono ?_); rintro e w' ⟨rfl, rfl⟩) | (go_at_call 15; (with_reducible refine (Z2.out _).mono ?_); rintro e w' ⟨rfl, rfl⟩) | (go_at_call 16; (with_reducible refine (Z3.out _).mono ?_); rintro e w' ⟨rfl, rfl⟩) | (go_at_call 17; (with_reducible refine (Z4.out _).mono ?_); rintro e w' ⟨rfl, rfl⟩))
        all_goals
          have HFIN := Lib.hid (HB1.out.trans (hb17.mono hb0w))
          clear hb17 hb16
          go_wp2
          go_ret
          exact ⟨rfl, HFIN.out⟩
    · go_wp2_with fail
      go_region_held3 (fun _ => True) (trivial)
        (first | (go_at_call 12; (with_reducible refine (HOF.out _ _ _ _ _ _ _ _ HS1.out (fun _ => rfl) (SlV.nil _ _ _ (by decide)) (fun _ => rfl) HPP.out).mono ?_); rintro e w6 ⟨A6, c6, rfl, hs6, hb6⟩; have cv6 := FreshV.conv hs6 (Below.refl _ w6).drew; have hb16 : Below w1.heap.size w1 w6.drew := hb6.drew; have HB16 := Lib.hid hb16))
      all_goals
        go_wp2_with fail
        rw [shut_conv (some 34), shut_conv (some 38)]
        go_region_held3 (fun _ => True) (trivial)
          (first | (go_at_call 13; (with_reducible refine (HR.out _ HB16.out).mono ?_); rintro e w7 ⟨A7, c7, rfl, hs7, hb7⟩; have hb17 := HB16.out.trans (hb7.mono HB16.out.size); have cv7 := FreshV.conv hs7 (Below.refl _ _); have cv6' := FreshV.conv hs6 ((Below.refl _ w6).drew.trans hb7)) | (go_at_call 14; (with_reducible refine (Z1.out _).mono ?_); rintro e w' ⟨rfl, rfl⟩) | (go_at_call 15; (with_reducible refine (Z2.out _).mono ?_); rintro e w' ⟨rfl, rfl⟩) | (go_at_call 16; (with_reducible refine (Z3.out _).mono ?_); rintro e w' ⟨rfl, rfl⟩) | (go_at_call 17; (with_reducible refine (Z4.out _).mono ?_); rintro e w' ⟨rfl, rfl⟩))
        all_goals
          have HFIN := Lib.hid (HB1.out.trans (hb17.mono hb0w))
          clear hb17 hb16
          go_wp2
          go_ret
          exact ⟨rfl, HFIN.out⟩
  | some a =>
    by_cases hkc : kk = c
    · have hkc' : (kk : Int) = c := by omega
      have hsB := (HT.out.full_ (k := c) (by omega))
      rw [← List.map_drop] at hsB
      subst hkc
      have HSB := Lib.hid hsB
      clear hsB
      rcases hdec with ⟨d1, rfl⟩ | ⟨d1, d2, rfl⟩ | ⟨d1, d2, rfl⟩
      · go_wp2_with fail
        go_region_held3 (fun _ => True) (trivial)
          (first | (go_at_call 12; (with_reducible refine (HOF.out _ _ _ _ _ _ _ _ HS1.out (hz) (HSB.out) (fun h => by cases h) HPP.out).mono ?_); rintro e w6 ⟨A6, c6, rfl, hs6, hb6⟩; have cv6 := FreshV.conv hs6 (Below.refl _ w6).drew; have hb16 : Below w1.heap.size w1 w6.drew := hb6.drew; have HB16 := Lib.hid hb16))
        all_goals
          go_wp2_with fail
          rw [shut_conv (some 34), shut_conv (some 38)]
          go_region_held3 (fun _ => True) (trivial)
            (first | (go_at_call 13; (with_reducible refine (HR.out _ HB16.out).mono ?_); rintro e w7 ⟨A7, c7, rfl, hs7, hb7⟩; have hb17 := HB16.out.trans (hb7.mono HB16.out.size); have cv7 := FreshV.conv hs7 (Below.refl _ _); have cv6' := FreshV.conv hs6 ((Below.refl _ w6).drew.trans hb7)) | (go_at_call 14; (with_reducible refine (Z1.out _).mono ?_); rintro e w' ⟨rfl, rfl⟩) | (go_at_call 15; (with_reducible refine (Z2.out _).mono ?_); rintro e w' ⟨rfl, rfl⟩) | (go_at_call 16; (with_reducible refine (Z3.out _).mono ?_); rintro e w' ⟨rfl, rfl⟩) | (go_at_call 17; (with_reducible refine (Z4.out _).mono ?_); rintro e w' ⟨rfl, rfl⟩))
          all_goals
            have HFIN := Lib.hid (HB1.out.trans (hb17.mono hb0w))
            clear hb17 hb16
            go_wp2
            go_ret
            exact ⟨rfl, HFIN.out⟩
      · go_wp2_with fail
        go_region_held3 (fun _ => True) (trivial)
          (first | (go_at_call 12; (with_reducible refine (HOF.out _ _ _ _ _ _ _ _ HS1.out (hz) (HSB.out) (fun h => by cases h) HPP.out).mono ?_); rintro e w6 ⟨A6, c6, rfl, hs6, hb6⟩; have cv6 := FreshV.conv hs6 (Below.refl _ w6).drew; have hb16 : Below w1.heap.size w1 w6.drew := hb6.drew; have HB16 := Lib.hid hb16))
        all_goals
          go_wp2_with fail
          rw [shut_conv (some 34), shut_conv (some 38)]
          go_region_held3 (fun _ => True) (trivial)
            (first | (go_at_call 13; (with_reducible refine (HR.out _ HB16.out).mono ?_); rintro e w7 ⟨A7, c7, rfl, hs7, hb7⟩; have hb17 := HB16.out.trans (hb7.mono HB16.out.size); have cv7 := FreshV.conv hs7 (Below.refl _ _); have cv6' := FreshV.conv hs6 ((Below.refl _ w6).drew.trans hb7)) | (go_at_call 14; (with_reducible refine (Z1.out _).mono ?_); rintro e w' ⟨rfl, rfl⟩) | (go_at_call 15; (with_reducible refine (Z2.out _).mono ?_); rintro e w' ⟨rfl, rfl⟩) | (go_at_call 16; (with_reducible refine (Z3.out _).mono ?_); rintro e w' ⟨rfl, rfl⟩) | (go_at_call 17; (with_reducible refine (Z4.out _).mono ?_); rintro e w' ⟨rfl, rfl⟩))
          all_goals
            have HFIN := Lib.hid (HB1.out.trans (hb17.mono hb0w))
            clear hb17 hb16
            go_wp2
            go_ret
            exact ⟨rfl, HFIN.out⟩
      · go_wp2_with fail
        go_region_held3 (fun _ => True) (trivial)
          (first | (go_at_call 12; (with_reducible refine (HOF.out _ _ _ _ _ _ _ _ HS1.out (hz) (HSB.out) (fun h => by cases h) HPP.out).mono ?_); rintro e w6 ⟨A6, c6, rfl, hs6, hb6⟩; have cv6 := FreshV.conv hs6 (Below.refl _ w6).drew; have hb16 : Below w1.heap.size w1 w6.drew := hb6.drew; have HB16 := Lib.hid hb16))
        all_goals
          go_wp2_with fail
          rw [shut_conv (some 34), shut_conv (some 38)]
          go_region_held3 (fun _ => True) (trivial)
            (first | (go_at_call 13; (with_reducible refine (HR.out _ HB16.out).mono ?_); rintro e w7 ⟨A7, c7, rfl, hs7, hb7⟩; have hb17 := HB16.out.trans (hb7.mono HB16.out.size); have cv7 := FreshV.conv hs7 (Below.refl _ _); have cv6' := FreshV.conv hs6 ((Below.refl _ w6).drew.trans hb7)) | (go_at_call 14; (with_reducible refine (Z1.out _).mono ?_); rintro e w' ⟨rfl, rfl⟩) | (go_at_call 15; (with_reducible refine (Z2.out _).mono ?_); rintro e w' ⟨rfl, rfl⟩) | (go_at_call 16; (with_reducible refine (Z3.out _).mono ?_); rintro e w' ⟨rfl, rfl⟩) | (go_at_call 17; (with_reducible refine (Z4.out _).mono ?_); rintro e w' ⟨rfl, rfl⟩))
          all_goals
            have HFIN := Lib.hid (HB1.out.trans (hb17.mono hb0w))
            clear hb17 hb16
            go_wp2
            go_ret
            exact ⟨rfl, HFIN.out⟩
    · have hkc' : ¬ (c : Int) = kk := by omega
      have hkc2 : ¬ c = kk := by omega
      have hkk' : (kk : Int) ≤ nn := by omega
      have hsB := (HT.out.drop_any hkk)
      rw [← List.map_drop] at hsB
      have HSB := Lib.hid hsB
      clear hsB
      rcases hdec with ⟨d1, rfl⟩ | ⟨d1, d2, rfl⟩ | ⟨d1, d2, rfl⟩
      · go_wp2_with fail
        go_region_held3 (fun _ => True) (trivial)
          (first | (go_at_call 12; (with_reducible refine (HOF.out _ _ _ _ _ _ _ _ HS1.out (hz) (by have h := HSB.out; rwa [Nat.sub_self] at h) (fun h => by cases h) HPP.out).mono ?_); rintro e w6 ⟨A6, c6, rfl, hs6, hb6⟩; have cv6 := FreshV.conv hs6 (Below.refl _ w6).drew; have hb16 : Below w1.heap.size w1 w6.drew := hb6.drew; have HB16 := Lib.hid hb16))
        all_goals
          go_wp2_with fail
          rw [shut_conv (some 34), shut_conv (some 38)]
          go_region_held3 (fun _ => True) (trivial)
            (first | (go_at_call 13; (with_reducible refine (HR.out _ HB16.out).mono ?_); rintro e w7 ⟨A7, c7, rfl, hs7, hb7⟩; have hb17 := HB16.out.trans (hb7.mono HB16.out.size); have cv7 := FreshV.conv hs7 (Below.refl _ _); have cv6' := FreshV.conv hs6 ((Below.refl _ w6).drew.trans hb7)) | (go_at_call 14; (with_reducible refine (Z1.out _).mono ?_); rintro e w' ⟨rfl, rfl⟩) | (go_at_call 15; (with_reducible refine (Z2.out _).mono ?_); rintro e w' ⟨rfl, rfl⟩) | (go_at_call 16; (with_reducible refine (Z3.out _).mono ?_); rintro e w' ⟨rfl, rfl⟩) | (go_at_call 17; (with_reducible refine (Z4.out _).mono ?_); rintro e w' ⟨rfl, rfl⟩))
          all_goals
            have HFIN := Lib.hid (HB1.out.trans (hb17.mono hb0w))
            clear hb17 hb16
            go_wp2
            go_ret
            exact ⟨rfl, HFIN.out⟩
      · go_wp2_with fail
        go_region_held3 (fun _ => True) (trivial)
          (first | (go_at_call 12; (with_reducible refine (HOF.out _ _ _ _ _ _ _ _ HS1.out (hz) (by have h := HSB.out; rwa [Nat.sub_self] at h) (fun h => by cases h) HPP.out).mono ?_); rintro e w6 ⟨A6, c6, rfl, hs6, hb6⟩; have cv6 := FreshV.conv hs6 (Below.refl _ w6).drew; have hb16 : Below w1.heap.size w1 w6.drew := hb6.drew; have HB16 := Lib.hid hb16))
        all_goals
          go_wp2_with fail
          rw [shut_conv (some 34), shut_conv (some 38)]
          go_region_held3 (fun _ => True) (trivial)
            (first | (go_at_call 13; (with_reducible refine (HR.out _ HB16.out).mono ?_); rintro e w7 ⟨A7, c7, rfl, hs7, hb7⟩; have hb17 := HB16.out.trans (hb7.mono HB16.out.size); have cv7 := FreshV.conv hs7 (Below.refl _ _); have cv6' := FreshV.conv hs6 ((Below.refl _ w6).drew.trans hb7)) | (go_at_call 14; (with_reducible refine (Z1.out _).mono ?_); rintro e w' ⟨rfl, rfl⟩) | (go_at_call 15; (with_reducible refine (Z2.out _).mono ?_); rintro e w' ⟨rfl, rfl⟩) | (go_at_call 16; (with_reducible refine (Z3.out _).mono ?_); rintro e w' ⟨rfl, rfl⟩) | (go_at_call 17; (with_reducible refine (Z4.out _).mono ?_); rintro e w' ⟨rfl, rfl⟩))
          all_goals
            have HFIN := Lib.hid (HB1.out.trans (hb17.mono hb0w))
            clear hb17 hb16
            go_wp2
            go_ret
            exact ⟨rfl, HFIN.out⟩
      · go_wp2_with fail
        go_region_held3 (fun _ => True) (trivial)
          (first | (go_at_call 12; (with_reducible refine (HOF.out _ _ _ _ _ _ _ _ HS1.out (hz) (HSB.out) (fun h => by cases h) HPP.out).mono ?_); rintro e w6 ⟨A6, c6, rfl, hs6, hb6⟩; have cv6 := FreshV.conv hs6 (Below.refl _ w6).drew; have hb16 : Below w1.heap.size w1 w6.drew := hb6.drew; have HB16 := Lib.hid hb16))
        all_goals
          go_wp2_with fail
          rw [shut_conv (some 34), shut_conv (some 38)]
          go_region_held3 (fun _ => True) (trivial)
            (first | (go_at_call 13; (with_reducible refine (HR.out _ HB16.out).mono ?_); rintro e w7 ⟨A7, c7, rfl, hs7, hb7⟩; have hb17 := HB16.out.trans (hb7.mono HB16.out.size); have cv7 := FreshV.conv hs7 (Below.refl _ _); have cv6' := FreshV.conv hs6 ((Below.refl _ w6).drew.trans hb7)) | (go_at_call 14; (with_reducible refine (Z1.out _).mono ?_); rintro e w' ⟨rfl, rfl⟩) | (go_at_call 15; (with_reducible refine (Z2.out _).mono ?_); rintro e w' ⟨rfl, rfl⟩) | (go_at_call 16; (with_reducible refine (Z3.out _).mono ?_); rintro e w' ⟨rfl, rfl⟩) | (go_at_call 17; (with_reducible refine (Z4.out _).mono ?_); rintro e w' ⟨rfl, rfl⟩))
          all_goals
            have HFIN := Lib.hid (HB1.out.trans (hb17.mono hb0w))
            clear hb17 hb16
            go_wp2
            go_ret
            exact ⟨rfl, HFIN.out⟩
end Go.Proofs.YtldheblkanimnaaDoor
