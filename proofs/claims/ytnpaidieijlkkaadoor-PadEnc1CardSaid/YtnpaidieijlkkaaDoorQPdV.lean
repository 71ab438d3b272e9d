/- baileyref8: DecOAEP. -/
import Derived.Test.YtnpaidieijlkkaaDoorQPdU
import Derived.Test.YtnpaidieijlkkaaDoorPileJ10
import Derived.Test.YtnpaidieijlkkaaDoorQWPd1
set_option linter.unusedVariables false
set_option linter.unusedSimpArgs false
namespace Go.Proofs.YtnpaidieijlkkaaDoor
open Go.RowKit Go.Shelf
attribute [local go_sem] shutOp

set_option maxRecDepth 100000 in
theorem rdecoaep_no1 (w : World) (k : Int) (v1 v2 : Value) (hk : ¬ KindOk k) :
    Calls Tryd.prog 30 #[.int .i64 k, v1, v2] w fun e w' => e = .returned (.tuple #[.slice none 0 0, .int .i64 7]) ∧ w = w' := by
  have hs := rsize_any w k
  rw [sizeV_no hk] at hs
  have HS := Lib.hid hs
  clear hs hk
  go_enter Tryd.func30, Tryd.ntmps30
  go_wp2_with fail
  refine HS.out.mono ?_
  rintro e w' ⟨rfl, rfl⟩
  go_wp2
  go_ret2
  exact ⟨rfl, rfl⟩
set_option maxRecDepth 100000 in
set_option maxHeartbeats 1000000 in
theorem rdecoaep_no2 (w : World) (k : Int) (v1 : Value) (B : Nat) (A : Option Addr) (n c : Nat) (em : List (BitVec 8)) (hs : SlV w B A n c (em.map W8)) (hk : KindOk k) (hn : n ≤ 500) (h : n < 2 * szN k + 2 ∨ em.head? ≠ some 0) :
    Calls Tryd.prog 30 #[.int .i64 k, v1, .slice A n c] w fun e w' => e = .returned (.tuple #[.slice none 0 0, .int .i64 64]) ∧ w = w' := by
  have hsz := rsize_any w k
  have hle := szN_le hk
  have hel : em.length = n := by simpa using hs.len.symm
  rw [szN_eq hk] at hsz
  obtain ⟨z, hz⟩ : ∃ h, szN k = h := ⟨_, rfl⟩
  rw [hz] at hsz hle h
  have HSZ := Lib.hid hsz
  have hz0 : ((z : Int) == 0) = false := beq_eq_false_iff_ne.2 (by omega)
  have hz20 : (20 : Int) ≤ z := by omega
  have hz64 : (z : Int) ≤ 64 := by omega
  clear hsz hle hz hk
  by_cases h1 : n < 2 * z + 2
  · have k1 : (n : Int) < 2 * z + 2 := by omega
    clear h hs
    go_enter Tryd.func30, Tryd.ntmps30
    go_wp2_with fail
    refine HSZ.out.mono ?_
    rintro e w' ⟨rfl, rfl⟩
    go_wp2
    go_ret2
    exact ⟨rfl, rfl⟩
  · have k1 : ¬ (n : Int) < 2 * z + 2 := by omega
    have k2 : ¬ (65536 : Int) < n := by omega
    have h3 : em.head? ≠ some 0 := by rcases h with h | h; exact absurd h h1; exact h
    obtain ⟨b, o, v, rfl, _, hv, hc⟩ := hs.at_ (k := 0) (by omega)
    rw [Nat.add_zero] at hc
    obtain ⟨x, t, hx⟩ : ∃ x t, em = x :: t := by
      cases em with
      | nil => simp at hel; omega
      | cons x t => exact ⟨x, t, rfl⟩
    subst hx
    obtain rfl : v = W8 x := (Option.some.inj hv).symm
    have hx0 : x ≠ 0 := fun e => h3 (by rw [e]; rfl)
    have kb : (i8 x != 0) = true := by simpa using (show ¬ i8 x = (0 : Int) from i8_ne hx0)
    have kc : (0 : Int) < c := by have := hs.cap; omega
    have kn : (0 : Int) < n := by omega
    clear h h3 hs hv hel
    go_enter Tryd.func30, Tryd.ntmps30
    go_wp2_with fail
    refine HSZ.out.mono ?_
    rintro e w' ⟨rfl, rfl⟩
    go_wp2
    go_ret2
    exact ⟨rfl, rfl⟩
theorem pre_take {a l : List (BitVec 8)} (h : a.length ≤ l.length) : a.isPrefixOf l = decide (l.take a.length = a) := by
  by_cases e : l.take a.length = a
  · rw [decide_eq_true e]
    exact List.isPrefixOf_iff_prefix.2 ⟨l.drop a.length, by have h2 := List.take_append_drop a.length l; rw [e] at h2; exact h2⟩
  · rw [decide_eq_false e]
    cases hp : a.isPrefixOf l with
    | false => rfl
    | true =>
      exfalso
      obtain ⟨t, ht⟩ := List.isPrefixOf_iff_prefix.1 hp
      exact e (by rw [← ht, List.take_left' rfl])
set_option maxRecDepth 100000 in
set_option maxHeartbeats 4000000 in
theorem rdecoaep_run (w : World) (k : Int) (hk : KindOk k) (B : Nat) (A1 : Option Addr) (n1 c1 : Nat) (label : List (BitVec 8)) (h1 : SlV w B A1 n1 c1 (label.map W8)) (z1 : A1 = none → c1 = 0) (hn1 : n1 ≤ 1000000)
    (A : Option Addr) (n c : Nat) (em : List (BitVec 8)) (hs : SlV w B A n c (em.map W8)) (hB : B ≤ w.heap.size) (hlo : 2 * szN k + 2 ≤ n) (hhi : n ≤ 500) (h0 : em.head? = some 0) :
    Calls Tryd.prog 30 #[.int .i64 k, .slice A1 n1 c1, .slice A n c] w fun e w' => ∃ v, e = .returned (.tuple #[v, .int .i64 (if decOk k label em then 0 else 64)]) ∧ FreshV w' w.heap.size v (if decOk k label em then decMsg k label em else []) ∧ Below w.heap.size w w' := by
  obtain ⟨DO, hDO⟩ : ∃ b, decOk k label em = b := ⟨_, rfl⟩
  obtain ⟨DM, hDM⟩ : ∃ l, decMsg k label em = l := ⟨_, rfl⟩
  rw [hDO, hDM]
  have HDO := Lib.hid hDO
  have HDM := Lib.hid hDM
  clear hDO hDM
  have hsz := rsize_any w k
  have hle := szN_le hk
  have hel : em.length = n := by simpa using hs.len.symm
  rw [szN_eq hk] at hsz
  obtain ⟨z, hz⟩ : ∃ h, szN k = h := ⟨_, rfl⟩
  rw [hz] at hsz hle hlo
  obtain ⟨p, hp⟩ : ∃ p, 1 + z = p := ⟨_, rfl⟩
  have hpI : (1 : Int) + (z : Int) = (p : Int) := by omega
  obtain ⟨b, o, v, rfl, _, hv, hc⟩ := hs.at_ (k := 0) (by omega)
  rw [Nat.add_zero] at hc
  have hcl : w.cell? ⟨b, o, none⟩ = some (.int .u8 0) := by
    cases em with
    | nil => simp at h0
    | cons x t =>
      obtain rfl : x = 0 := by simpa using h0
      obtain rfl : v = W8 0 := (Option.some.inj hv).symm
      exact hc
  have hcap := hs.cap
  have hz0 : ((z : Int) == 0) = false := beq_eq_false_iff_ne.2 (by omega)
  have k1 : ¬ (n : Int) < 2 * z + 2 := by omega
  have k2 : ¬ (65536 : Int) < n := by omega
  have k2b : (n : Int) ≤ 500 := by omega
  have k3 : (p : Int) ≤ n := by omega
  have k4 : (1 : Int) ≤ p := by omega
  have k5 : ¬ c = p := by omega
  have k6 : ¬ c = 1 := by omega
  have k7 : (n : Int) ≤ c := by omega
  have k8 : (0 : Int) < c := by omega
  have k9 : (0 : Int) < n := by omega
  have k10 : (20 : Int) ≤ z := by omega
  have k11 : (z : Int) ≤ 64 := by omega
  have k12 : (p : Int) ≤ c := by omega
  have k13 : IntKind.i64.wrap (p : Int) = (p : Int) := by rw [IntKind.wrap_i64]; omega
  have sH := hs.drop (k := p) (by omega)
  rw [← List.map_drop] at sH
  have sS := (hs.drop (k := 1) (by omega)).take (k := p - 1) (by omega)
  rw [← List.map_drop, ← List.map_take] at sS
  obtain ⟨H, hH⟩ : ∃ l, em.drop p = l := ⟨_, rfl⟩
  obtain ⟨S, hS⟩ : ∃ l, (em.drop 1).take (p - 1) = l := ⟨_, rfl⟩
  rw [hH] at sH
  rw [hS] at sS
  have hSl : S.length = p - 1 := by simpa using sS.len.symm
  have hHl : H.length = n - p := by simpa using sH.len.symm
  have SH := Lib.hid (sH.more hB)
  have SS := Lib.hid (sS.more hB)
  have hmg : ∀ V, Below w.heap.size w V → Calls Tryd.prog 58 #[.int .i64 k, .slice (some ⟨b, o + p, none⟩) (n - p) (c - p), .int .i64 (z : Int)] V fun e w' => ∃ v, e = .returned v ∧ FreshV w' V.heap.size v (mgfL k H z) ∧ Below V.heap.size V w' := fun V hV => rmgf_any V k hk _ _ (n - p) (c - p) H (SH.out.below hV) (fun x => by cases x) hV.size (by omega) z (by omega) (by omega)
  have HMG := Lib.hid hmg
  have HSZ := Lib.hid hsz
  have P1 := Lib.hid (h1.more hB)
  have Z1 := Lib.hid z1
  have HN := Lib.hid (⟨hk, hz, hp, by omega, hle.1, hle.2.2, hn1, hhi, hlo, hel⟩ : KindOk k ∧ szN k = z ∧ 1 + z = p ∧ 1 ≤ n - p ∧ 20 ≤ z ∧ z ≤ 64 ∧ n1 ≤ 1000000 ∧ n ≤ 500 ∧ 2 * z + 2 ≤ n ∧ em.length = n)
  have HHS := Lib.hid (⟨hH, hS, hSl, hHl⟩ : em.drop p = H ∧ (em.drop 1).take (p - 1) = S ∧ S.length = p - 1 ∧ H.length = n - p)
  have kzp : p - 1 = z := by omega
  have HZP := Lib.hid kzp
  clear kzp hsz hk hz hp hle hB hn1 hlo hhi hH hS sH sS h1 z1 hs hc hv hel h0 hSl hHl hmg
  go_enter Tryd.func30, Tryd.ntmps30
  go_wp2_with fail
  refine HSZ.out.mono ?_
  rintro e w' ⟨rfl, rfl⟩
  have hbd : Below w.heap.size w w.drew := (Below.refl _ w).drew
  go_wp2_with fail
  go_region_held3 (fun _ => True) (trivial)
    (first | (go_at_call 58; (with_reducible refine (HMG.out _ hbd).mono ?_); rintro e w1 ⟨v1, rfl, hf1, hb1⟩; obtain ⟨Am, nm, cm, rfl⟩ := hf1.form; obtain rfl := hf1.lit z (mgfL_length HN.out.1 _ _); have hb01 := hbd.trans (hb1.mono hbd.size); have s1 := hf1.pc.sl.1; have hx := rxor_any w1 w1.heap.size (Nat.le_refl _) (some ⟨b, o + 1, none⟩) (p - 1) (c - 1) S ((SS.out.below hb01).more hb01.size) Am nm cm _ s1 (by have := HZP.out; omega) (by omega); have HX := Lib.hid hx) | (go_at_call 57; (with_reducible refine HX.out.mono ?_); rintro e w2 ⟨rfl, hr2, hb2⟩))
  all_goals
    have hmk : xorL S (mgfL k H nm) = maskK k S H := by rw [maskK, HHS.out.2.2.1, HZP.out]
    rw [hmk] at hr2
    obtain ⟨SD, hSD⟩ : ∃ l, maskK k S H = l := ⟨_, rfl⟩
    rw [hSD] at hr2
    have hSDl : SD.length = p - 1 := by rw [← hSD, maskK_length HN.out.1, HHS.out.2.2.1]
    have hf2 : FreshV w2 w1.heap.size (.slice (some ⟨w1.heap.size, 0, none⟩) (p - 1) (p - 1)) SD := FreshV.row2 hr2 hSDl (by omega) _ (Nat.le_refl _)
    have hb02 := hb01.trans (hb2.mono hb01.size)
    obtain ⟨s2, z2⟩ := hf2.pc.sl
    have hmg := rmgf_any w2 k HN.out.1 _ _ (p - 1) (p - 1) SD s2 z2 (Nat.le_refl _) (by omega) (n - p) HN.out.2.2.2.1 (by omega)
    have HMG2 := Lib.hid hmg
    have HB2 := Lib.hid hb02
    have HSD := Lib.hid hSD
    have knp : (n : Int) - (p : Int) = ((n - p : Nat) : Int) := by omega
    clear hmg hb02 hSD hSDl hf2 s2 z2 hmk hr2 hb2 hb01 hb1 hf1 s1 hx HX HMG HSZ
    go_wp2_with fail
    refine HMG2.out.mono ?_
    rintro e w3 ⟨v3, rfl, hf3, hb3⟩
    obtain ⟨A3, n3, c3, rfl⟩ := hf3.form
    obtain rfl := hf3.lit (n - p) (mgfL_length HN.out.1 _ _)
    obtain ⟨s3, _⟩ := hf3.pc.sl
    have hb03 := HB2.out.trans (hb3.mono HB2.out.size)
    have hx := rxor_any w3 w3.heap.size (Nat.le_refl _) (some ⟨b, o + p, none⟩) (n - p) (c - p) H ((SH.out.below hb03).more hb03.size) A3 (n - p) c3 _ s3 (Nat.le_refl _) (by omega)
    have hmk : xorL H (mgfL k SD (n - p)) = maskK k H SD := by rw [maskK, HHS.out.2.2.2]
    rw [hmk] at hx
    obtain ⟨K, hK⟩ : ∃ l, maskK k H SD = l := ⟨_, rfl⟩
    rw [hK] at hx
    have hKl : K.length = n - p := by rw [← hK, maskK_length HN.out.1, HHS.out.2.2.2]
    have HX := Lib.hid hx
    have HB3 := Lib.hid hb03
    have HK := Lib.hid (⟨hK, hKl⟩ : maskK k H SD = K ∧ K.length = n - p)
    clear hx hmk hK hKl hb03 s3 hf3 hb3 HMG2 HB2
    go_wp2_with fail
    refine HX.out.mono ?_
    rintro e w4 ⟨rfl, hr4, hb4⟩
    obtain ⟨g, hg⟩ : ∃ g, w3.heap.size = g := ⟨_, rfl⟩
    rw [hg] at hr4 hb4 ⊢
    have hb04 := HB3.out.trans (hb4.mono (by have := HB3.out.size; omega))
    have sK : SlV w4 w4.heap.size (some ⟨g, 0, none⟩) (n - p) (n - p) (K.map W8) := (FreshV.row2 hr4 HK.out.2 (by omega) g (Nat.le_refl _)).pc.sl.1
    have hcv : ∀ V, Below w4.heap.size w4 V → (convert 22 9 (.slice (some ⟨g, 0, none⟩) nm (n - p))).run Tryd.prog V = .ok (strV (K.take nm)) V := fun V hV => by
      have h := (sK.take (k := nm) (by have := HN.out; omega)).below hV
      rw [← List.map_take] at h
      exact conv_str h
    have hof : ∀ V, Below w4.heap.size w4 V → Calls Tryd.prog 56 #[.int .i64 k, .slice A1 n1 c1] V fun e w' => ∃ v, e = .returned v ∧ FreshV w' V.heap.size v (sumK k label) ∧ Below V.heap.size V w' := fun V hV => rofK_any V k _ A1 n1 c1 label (P1.out.below (hb04.trans (hV.mono hb04.size))) Z1.out (hb04.trans (hV.mono hb04.size)).size (by have := HN.out; omega)
    obtain ⟨Dl, hDl⟩ : ∃ l, sumK k label = l := ⟨_, rfl⟩
    rw [hDl] at hof
    obtain ⟨X, hX⟩ : ∃ l, K.take nm = l := ⟨_, rfl⟩
    rw [hX] at hcv
    obtain ⟨NB, hNB⟩ : ∃ b, (!decide (X = Dl)) = b := ⟨_, rfl⟩
    have e1 := fun (w : World) (t : TypeId) (x y : Operand) (a b : List (BitVec 8)) => eqGuard_str (P := Tryd.prog) w .neq t x y a b
    have e2 : ∀ w', (binOp .neq 9 (strV X) (strV Dl)).run Tryd.prog w' = .ok (.bool NB) w' := fun w' => by rw [neq_str w' _ X Dl, hNB]
    have hbd4 : Below w4.heap.size w4 w4.drew := (Below.refl _ w4).drew
    have cv4 := hcv _ hbd4
    have HCV := Lib.hid hcv
    have HOF := Lib.hid hof
    have HB4 := Lib.hid hb04
    have HR4 := Lib.hid hr4
    have HDL := Lib.hid (⟨hDl, hX, hNB⟩ : sumK k label = Dl ∧ K.take nm = X ∧ (!decide (X = Dl)) = NB)
    have kzn : (nm : Int) ≤ ((n - p : Nat) : Int) := by have := HN.out; omega
    have kwz : IntKind.i64.wrap (nm : Int) = (nm : Int) := by rw [IntKind.wrap_i64]; omega
    clear hcv hof hDl hX hNB hb04 hr4 sK HX HB3 hb4
    go_wp2_with fail
    rw [shut_conv (some 57), shut_conv (some 61)]
    go_region_held3 (fun _ => True) (trivial)
      (first | (go_at_call 56; (with_reducible refine (HOF.out _ hbd4).mono ?_); rintro e w5 ⟨v5, rfl, hf5, hb5⟩; obtain ⟨A5, n5, c5, rfl⟩ := hf5.form; have cv5 := hf5.cv; have hb45 := hbd4.trans (hb5.mono hbd4.size); have cv45 := HCV.out _ hb45))
    all_goals
      have hblk : decBlk k em = K := by rw [decBlk, HN.out.2.1, HN.out.2.2.1, HHS.out.1, show nm = p - 1 from HZP.out.symm, HHS.out.2.1, HSD.out, HK.out.1]
      have hDll : Dl.length = nm := by rw [← HDL.out.1, sumK_len HN.out.1, HN.out.2.1]
      have hpre : Dl.isPrefixOf K = !NB := by
        rw [pre_take (by rw [hDll, HK.out.2]; have := HN.out; omega), hDll, HDL.out.2.1, ← HDL.out.2.2]
        cases decide (X = Dl) <;> rfl
      have hb05 := HB4.out.trans (hb45.mono HB4.out.size)
      have hr5 := HR4.out.later hb45
      have HB5 := Lib.hid hb05
      have HR5 := Lib.hid hr5
      cases NB
      · obtain ⟨R, hR⟩ : ∃ R, K.drop nm = R := ⟨_, rfl⟩
        have hrest : decRest k label em = R := by rw [decRest, hblk, HDL.out.1, hpre, if_pos (show (!false) = true from rfl), hDll, hR]
        have hRl : R.length + nm + p = n := by rw [← hR, List.length_drop, HK.out.2]; have := HN.out; omega
        have hok : DO = ([1] : List (BitVec 8)).isPrefixOf (dropX 0 R) := by rw [← HDO.out, decOk, hblk, HDL.out.1, hpre, hrest]; rfl
        have hdm : DM = (dropX 0 R).drop 1 := by rw [← HDM.out, decMsg, hrest]
        have HR := Lib.hid (⟨hR, hRl, hok, hdm⟩ : K.drop nm = R ∧ R.length + nm + p = n ∧ DO = ([1] : List (BitVec 8)).isPrefixOf (dropX 0 R) ∧ DM = (dropX 0 R).drop 1)
        clear hblk hDll hpre hb05 hr5 hR hrest hRl hok hdm hf5 cv5 cv45 hb45 hb5 cv4 hbd4 HOF HCV HR4 HB4 e2 e1
        go_wp2
        go_loopw [12] (fun i wr => w5 = wr ∧ ∃ t : Nat, t ≤ R.length ∧ i = .int .i64 ((nm : Int) + (t : Int)) ∧ Hid (dropX 0 R = dropX 0 (R.drop t))) (fun i _ => n - (intOf i).toNat)
        case atStart => exact ⟨rfl, 0, by omega, by simp, Lib.hid (by rw [List.drop_zero])⟩
        case round =>
          obtain ⟨rfl, t, ht, rfl, HT⟩ := hrel
          by_cases hte : t = R.length
          · subst hte
            have k5 : ¬ (nm : Int) + (R.length : Int) < ((n - p : Nat) : Int) := by have := HR.out; omega
            have hdr : dropX 0 R = [] := by rw [HT.out, List.drop_length]; rfl
            obtain rfl : DO = false := by rw [HR.out.2.2.1, hdr]; rfl
            clear hdr
            go_wp2
            go_ret2
            exact ⟨_, rfl, FreshV.nil_ _ _, HB5.out⟩
          · obtain ⟨j, hj⟩ : ∃ j, nm + t = j := ⟨_, rfl⟩
            have hjI : (nm : Int) + (t : Int) = (j : Int) := by omega
            have k5 : (j : Int) < ((n - p : Nat) : Int) := by have := HR.out; omega
            obtain ⟨x, hx⟩ : ∃ x, R[t]? = some x := ⟨_, List.getElem?_eq_getElem (by omega)⟩
            have hcx : w5.cell? ⟨g, j, none⟩ = some (W8 x) := HR5.out.at_ (by
              rw [List.getElem?_map, show K[j]? = some x by rw [← hx, ← HR.out.1, List.getElem?_drop, hj]]; rfl)
            have hdr : R.drop t = x :: R.drop (t + 1) := by
              obtain ⟨hl, rfl⟩ := List.getElem?_eq_some_iff.1 hx
              exact List.drop_eq_getElem_cons hl
            have HX2 := Lib.hid hdr
            have HJ := Lib.hid hj
            have kj0 : (0 : Int) ≤ j := by omega
            rw [hjI]
            clear hdr hx hj
            by_cases hx1 : x = 1
            · subst hx1
              have hcx' : w5.cell? ⟨g, j, none⟩ = some (.int .u8 1) := hcx
              have hd1 : dropX 0 R = 1 :: R.drop (t + 1) := by rw [HT.out, HX2.out]; rfl
              obtain rfl : DO = true := by rw [HR.out.2.2.1, hd1]; rfl
              obtain rfl : DM = R.drop (t + 1) := by rw [HR.out.2.2.2, hd1]; rfl
              obtain ⟨u, hu⟩ : ∃ u, j + 1 = u := ⟨_, rfl⟩
              have huI : (j : Int) + 1 = (u : Int) := by omega
              have ku : (u : Int) ≤ ((n - p : Nat) : Int) := by omega
              have kub : (u : Int) ≤ 500 := by omega
              have kuw : IntKind.i64.wrap (u : Int) = (u : Int) := by rw [IntKind.wrap_i64]; omega
              have sK : SlV w5 w5.heap.size (some ⟨g, 0, none⟩) (n - p) (n - p) (K.map W8) := (FreshV.row2 HR5.out HK.out.2 (by omega) g (Nat.le_refl _)).pc.sl.1
              have hd := sK.dropIf (k := u) (by omega)
              have hdd : K.drop u = R.drop (t + 1) := by rw [← HR.out.1, List.drop_drop]; congr 1; have := HJ.out; omega
              rw [← List.map_drop, hdd] at hd
              have hnil : w5.ownsRow w5.heap.size 5 1 (.slice none 0 0) 0 (([] : List (BitVec 8)).map W8) := World.ownsRow_nil _ _ _ _
              have HDI := Lib.hid hd
              clear hd hdd hd1 hcx sK hu
              by_cases hcp : n - p = u
              · rw [if_pos hcp, hcp, Nat.sub_self] at HDI
                have hsl := HDI.out
                have HCP := Lib.hid hcp
                clear hcp
                rw [HCP.out]
                rw [HCP.out] at k5 ku kzn
                go_wp2_with (at_builtin; refine wlv_append Tryd.elem8 rfl _ _ rfl w5.heap.size _ 0 [] rfl hnil _ 0 0 _ rfl (fun x => by cases x) _ hsl (ones8 _) (by decide) (Nat.le_refl _) ?_; intro v6 w6 hown6 hgr)
                go_ret2
                exact ⟨_, rfl, (FreshV.of_own (by simpa using hown6)).mono_ HB5.out.size, HB5.out.grown hgr HB5.out.size (fun q hq => Nat.le_trans HB5.out.size (hnil.lt q hq).1)⟩
              · rw [if_neg hcp, Nat.zero_add] at HDI
                have hsl := HDI.out
                go_wp2_with (at_builtin; refine wlv_append Tryd.elem8 rfl _ _ rfl w5.heap.size _ 0 [] rfl hnil _ (n - p - u) (n - p - u) _ rfl (fun x => by cases x) _ hsl (ones8 _) (by omega) (Nat.le_refl _) ?_; intro v6 w6 hown6 hgr)
                go_ret2
                exact ⟨_, rfl, (FreshV.of_own (by simpa using hown6)).mono_ HB5.out.size, HB5.out.grown hgr HB5.out.size (fun q hq => Nat.le_trans HB5.out.size (hnil.lt q hq).1)⟩
            · have kx1 : (i8 x == 1) = false := beq_eq_false_iff_ne.2 (show ¬ i8 x = (1 : Int) from i8_ne (y := 1) hx1)
              have kx1' : ¬ i8 x = 1 := i8_ne (y := 1) hx1
              by_cases hx0 : x = 0
              · subst hx0
                have hcx' : w5.cell? ⟨g, j, none⟩ = some (.int .u8 0) := hcx
                have hnx : dropX 0 R = dropX 0 (R.drop (t + 1)) := by rw [HT.out, HX2.out]; rfl
                have HNX := Lib.hid hnx
                clear hnx hcx kx1 kx1'
                go_wp2
                go_roundw
                case rel => exact ⟨by first | rfl | trivial, t + 1, by omega, by first | go_num | (congr 1; have := HJ.out; omega), HNX⟩
                case measure => simp [intOf]; omega
              · have kx0 : (i8 x != 0) = true := by simpa using (show ¬ i8 x = (0 : Int) from i8_ne hx0)
                have hd1 : dropX 0 R = x :: R.drop (t + 1) := by
                  rw [HT.out, HX2.out, dropX, List.dropWhile_cons, if_neg (show ¬ (x == 0) = true from fun e => hx0 (by simpa using e))]
                obtain rfl : DO = false := by
                  rw [HR.out.2.2.1, hd1]
                  show (((1 : BitVec 8) == x) && true) = false
                  simp
                  exact fun e => hx1 e.symm
                clear hd1
                go_wp2
                go_ret2
                exact ⟨_, rfl, FreshV.nil_ _ _, HB5.out⟩
      · obtain rfl : DO = false := by rw [← HDO.out, decOk, hblk, HDL.out.1, hpre]; rfl
        clear hblk hDll hpre hb05 hr5 hf5 cv5 cv45 hb45 hb5 cv4 hbd4 HOF HCV HR4 HB4 e2 e1
        go_wp2
        go_ret2
        exact ⟨_, rfl, FreshV.nil_ _ _, HB5.out⟩
end Go.Proofs.YtnpaidieijlkkaaDoor
