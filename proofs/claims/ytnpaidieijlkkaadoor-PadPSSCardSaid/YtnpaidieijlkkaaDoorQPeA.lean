/- baileyref8: VerPSS. -/
import Derived.Test.YtnpaidieijlkkaaDoorQPdY
set_option linter.unusedVariables false
set_option linter.unusedSimpArgs false
namespace Go.Proofs.YtnpaidieijlkkaaDoor
open Go.RowKit Go.Shelf

theorem rverpss_no1 (w : World) (k bits : Int) (v2 v3 : Value) (s : Int) (h : s < 0) :
    Calls Tryd.prog 34 #[.int .i64 k, .int .i64 bits, v2, v3, .int .i64 s] w fun e w' => e = .returned (.bool false) ∧ w = w' := by
  go_enter Tryd.func34, Tryd.ntmps34
  go_wp2
  go_ret
  exact ⟨rfl, rfl⟩
set_option maxRecDepth 100000 in
theorem rverpss_no2 (w : World) (k bits : Int) (A : Option Addr) (n c : Nat) (v3 : Value) (s : Int) (h0 : 0 ≤ s) (h : psR k bits n s ≠ 0) :
    Calls Tryd.prog 34 #[.int .i64 k, .int .i64 bits, .slice A n c, v3, .int .i64 s] w fun e w' => e = .returned (.bool false) ∧ w = w' := by
  have hp := rpss_any w k bits A n c s h0
  obtain ⟨R, hR⟩ : ∃ r, psR k bits n s = r := ⟨_, rfl⟩
  rw [hR] at hp h
  have HP := Lib.hid hp
  have kb : (R != 0) = true := by simpa using h
  clear hp hR
  go_enter Tryd.func34, Tryd.ntmps34
  go_wp2_with fail
  refine HP.out.mono ?_
  rintro e w' ⟨rfl, rfl⟩
  go_wp2
  go_ret
  exact ⟨rfl, rfl⟩
set_option maxRecDepth 100000 in
theorem rverpss_no3 (w : World) (k : Int) (bits N : Nat) (hN : (bits + 7) / 8 = N) (hb : bits ≤ 65536) (A : Option Addr) (n c : Nat) (A3 : Option Addr) (n3 c3 : Nat) (s : Int) (h0 : 0 ≤ s) (h : psR k (bits : Int) n s = 0) (hne : n3 ≠ N) :
    Calls Tryd.prog 34 #[.int .i64 k, .int .i64 (bits : Int), .slice A n c, .slice A3 n3 c3, .int .i64 s] w fun e w' => e = .returned (.bool false) ∧ w = w' := by
  have hp := rpss_any w k (bits : Int) A n c s h0
  rw [h] at hp
  have hs := rsize_any w k
  obtain ⟨z, hz⟩ : ∃ z, sizeV k = z := ⟨_, rfl⟩
  rw [hz] at hs
  have HP := Lib.hid hp
  have HS := Lib.hid hs
  have hd : ((bits : Int) + 7) / 8 = (N : Int) := by omega
  have kbi : (bits : Int) ≤ 65536 := by omega
  have k1 : ((n3 : Int) != (N : Int)) = true := by simpa using (show ¬ (n3 : Int) = (N : Int) by omega)
  clear hp h hs hz hne
  go_enter Tryd.func34, Tryd.ntmps34
  go_wp2_with fail
  refine HP.out.mono ?_
  rintro e w' ⟨rfl, rfl⟩
  go_wp2_with fail
  refine HS.out.mono ?_
  rintro e w' ⟨rfl, rfl⟩
  go_wp2
  go_ret
  exact ⟨rfl, rfl⟩
set_option maxRecDepth 100000 in
set_option maxHeartbeats 8000000 in
theorem rverpss_run (w : World) (k : Int) (bits N : Nat) (hN : (bits + 7) / 8 = N) (B : Nat) (A1 : Option Addr) (n1 c1 : Nat) (hash : List (BitVec 8)) (h1 : SlV w B A1 n1 c1 (hash.map W8)) (z1 : A1 = none → c1 = 0) (h : psB k (bits : Int) n1 = true)
    (A3 : Option Addr) (c3 : Nat) (em : List (BitVec 8)) (h3 : SlV w B A3 N c3 (em.map W8)) (hB : B ≤ w.heap.size) (s : Nat) (hs : s + n1 + 1 < N) :
    Calls Tryd.prog 34 #[.int .i64 k, .int .i64 (bits : Int), .slice A1 n1 c1, .slice A3 N c3, .int .i64 (s : Int)] w fun e w' => e = .returned (.bool (decide (pssL k (N - n1 - s - 2) (8 * N - bits) hash (verSalt k N n1 s em) = em))) ∧ Below w.heap.size w w' := by
  obtain ⟨R, hR⟩ : ∃ b, decide (pssL k (N - n1 - s - 2) (8 * N - bits) hash (verSalt k N n1 s em) = em) = b := ⟨_, rfl⟩
  rw [hR]
  have HR := Lib.hid hR
  clear hR
  obtain ⟨hok, hb1, hb2⟩ := of_decide_eq_true h
  obtain ⟨hk, hn⟩ := okB_kind hok
  have hle := szN_le hk
  have hp := rpss_any w k (bits : Int) A1 n1 c1 (s : Int) (by omega)
  have hpr : psR k (bits : Int) n1 (s : Int) = 0 := by
    rw [psR, if_neg (by rw [h]; decide), szN_eq hk, if_neg (by omega)]
  rw [hpr] at hp
  have hsz := rsize_any w k
  rw [szN_eq hk, ← hn] at hsz
  have hd : ((bits : Int) + 7) / 8 = (N : Int) := by omega
  have hel : em.length = N := by simpa using h3.len.symm
  obtain ⟨e, he⟩ : ∃ e, N - n1 - 1 = e := ⟨_, rfl⟩
  obtain ⟨b, o, _, rfl, _⟩ := h3.at_ (k := 0) (by omega)
  have hcap := h3.cap
  have k1 : ((N : Int) != (N : Int)) = false := by simp
  have k2 : (n1 : Int) ≤ 64 := by omega
  have k3 : (N : Int) ≤ 8192 := by omega
  have k4 : (N : Int) - n1 - 1 = (e : Int) := by omega
  have k5 : (s : Int) < e := by omega
  have k6 : ¬ (s : Int) < 0 := by omega
  obtain ⟨t, ht⟩ : ∃ t, N - 1 = t := ⟨_, rfl⟩
  have k8 : (e : Int) ≤ t := by omega
  have k9 : (N : Int) ≤ c3 := by omega
  have k10 : ¬ c3 = e := by omega
  obtain ⟨p, hpe⟩ : ∃ p, e - s = p := ⟨_, rfl⟩
  have k11 : (e : Int) - (s : Int) = (p : Int) := by omega
  have k12 : (N : Int) - 1 = (t : Int) := by omega
  have k13 : (t : Int) ≤ c3 := by omega
  have k14 : (t : Int) ≤ 8192 := by omega
  have k16 : (p : Int) ≤ e := by omega
  have k17 : (1 : Int) ≤ p := by omega
  have k18 : (e : Int) ≤ c3 := by omega
  have k21 : (e : Int) ≤ 8192 := by omega
  have k22 : ¬ e = p → ¬ (e : Int) = p := fun x => by omega
  have sA := h3.take (k := e) (by omega)
  rw [← List.map_take] at sA
  have sD := (h3.drop (k := e) (by omega)).take (k := t - e) (by omega)
  rw [← List.map_drop, ← List.map_take, show (em.drop e).take (t - e) = (em.drop e).take n1 by congr 1; omega] at sD
  obtain ⟨X, hX⟩ : ∃ l, em.take e = l := ⟨_, rfl⟩
  obtain ⟨D, hD⟩ : ∃ l, (em.drop e).take n1 = l := ⟨_, rfl⟩
  rw [hX] at sA
  rw [hD] at sD
  have hXl : X.length = e := by simpa using sA.len.symm
  have hmg := rmgf_any w k hk _ _ (t - e) (c3 - e) D sD (fun x => by cases x) hB (by omega) e (by omega) (by omega)
  have hZ : n1 + s + 2 + (N - n1 - s - 2) = N := by omega
  have hes : N - n1 - 1 - s = p ∧ e - p = s := by omega
  have HP := Lib.hid hp
  have HS := Lib.hid hsz
  have HMG := Lib.hid hmg
  have SA := Lib.hid (sA.more hB)
  have S3 := Lib.hid (h3.more hB)
  have S1 := Lib.hid (h1.more hB)
  have Z1 := Lib.hid z1
  have HN := Lib.hid (⟨hk, hn, hN, hZ, hle.2.2, hel, he, hs, hes⟩ : KindOk k ∧ n1 = szN k ∧ (bits + 7) / 8 = N ∧ n1 + s + 2 + (N - n1 - s - 2) = N ∧ szN k ≤ 64 ∧ em.length = N ∧ N - n1 - 1 = e ∧ s + n1 + 1 < N ∧ (N - n1 - 1 - s = p ∧ e - p = s))
  have HPS := Lib.hid h
  have HXD := Lib.hid (⟨hX, hD, hXl⟩ : em.take e = X ∧ (em.drop e).take n1 = D ∧ X.length = e)
  clear hp hpr hsz hmg h hok hk hn hle hN hel he hs ht hpe hX hD hXl sA sD h1 h3 z1 hB hZ hes k22
  go_enter Tryd.func34, Tryd.ntmps34
  go_wp2_with fail
  refine HP.out.mono ?_
  rintro e' w' ⟨rfl, rfl⟩
  go_wp2_with fail
  refine HS.out.mono ?_
  rintro e' w' ⟨rfl, rfl⟩
  clear HP HS
  go_wp2_with fail
  refine HMG.out.mono ?_
  rintro e' w1 ⟨v1, rfl, hf1, hb1⟩
  obtain ⟨Am, nm, cm, rfl⟩ := hf1.form
  have hnm := hf1.lit e (mgfL_length HN.out.1 _ _)
  subst hnm
  have hx := rxor_any w1 w1.heap.size (Nat.le_refl _) (some ⟨b, o, none⟩) nm c3 X ((SA.out.below hb1).more hb1.size) Am nm cm _ hf1.pc.sl.1 (Nat.le_refl _) (by omega)
  have hmk : xorL X (mgfL k D nm) = maskK k X D := by rw [maskK, HXD.out.2.2]
  rw [hmk] at hx
  have HX := Lib.hid hx
  have HB1 := Lib.hid hb1
  clear hx hmk hf1 hb1 HMG
  go_wp2_with fail
  refine HX.out.mono ?_
  rintro e' w2 ⟨rfl, hr2, hb2⟩
  obtain ⟨g, hg⟩ : ∃ g, w1.heap.size = g := ⟨_, rfl⟩
  rw [hg] at hr2 hb2 ⊢
  have hml : (maskK k X D).length = nm := by rw [maskK_length HN.out.1, HXD.out.2.2]
  have hb02 : Below w.heap.size w w2 := HB1.out.trans (hb2.mono (by have := HB1.out.size; omega))
  have sl := (FreshV.row2 hr2 hml (by omega) g (Nat.le_refl _)).pc.sl.1
  have hdi := sl.dropIf (k := p) (by omega)
  rw [← List.map_drop] at hdi
  obtain ⟨K, hK⟩ : ∃ l, (maskK k X D).drop p = l := ⟨_, rfl⟩
  rw [hK] at hdi
  have hvs : verSalt k N n1 s em = K := by
    have h9 := HN.out.2.2.2.2.2.2.2.2.1
    rw [verSalt, h9, HN.out.2.2.2.2.2.2.1, HXD.out.1, HXD.out.2.1, hK]
  have kpe : ¬ nm = p ∨ nm = p := by omega
  have hen : ∀ (P : Option Addr) (m cc : Nat), SlV w2 w2.heap.size P m cc (K.map W8) → m = s → (P = none → cc = 0) → Calls Tryd.prog 32 #[.int .i64 k, .int .i64 (bits : Int), .slice A1 n1 c1, .slice P m cc] w2 fun e' w' => ∃ v, e' = .returned (.tuple #[v, .int .i64 0]) ∧ FreshV w' w2.heap.size v (pssL k (N - n1 - s - 2) (8 * N - bits) hash K) ∧ Below w2.heap.size w2 w' := fun P m cc hP hm hz => by
    subst hm
    exact rencpss_ok w2 k bits N HN.out.2.2.1 w2.heap.size A1 n1 c1 hash ((S1.out.below hb02).more hb02.size) Z1.out HPS.out P m cc K hP hz (Nat.le_refl _) (N - n1 - m - 2) HN.out.2.2.2.1
  have HEN := Lib.hid hen
  have HDI := Lib.hid hdi
  have HB2 := Lib.hid hb02
  have HVS := Lib.hid hvs
  have HES := Lib.hid HN.out.2.2.2.2.2.2.2.2.2
  have S32 := Lib.hid ((S3.out.below hb02).more hb02.size)
  clear hen hdi hb02 hvs sl hr2 hb2 hK hml hg HX HB1 kpe
  by_cases hcc : nm = p
  · subst hcc
    rw [if_pos rfl, Nat.sub_self] at HDI
    rw [Nat.sub_self] at HES
    go_wp2_with fail
    refine (HEN.out _ _ _ HDI.out HES.out (fun x => by cases x)).mono ?_
    rintro e' w3 ⟨v3, rfl, hf3, hb3⟩
    obtain ⟨Av, nv, cv, rfl⟩ := hf3.form
    have cv3 := hf3.cv
    have cv4 : (convert 22 9 (.slice (some ⟨b, o, none⟩) N c3)).run Tryd.prog w3 = .ok (strV em) w3 := conv_str (S32.out.below hb3)
    have e1' := fun (w : World) (t : TypeId) (x y : Operand) (a b : List (BitVec 8)) => eqGuard_str (P := Tryd.prog) w .eql t x y a b
    have e2 : ∀ w', (binOp .eql 9 (strV (pssL k (N - n1 - s - 2) (8 * N - bits) hash K)) (strV em)).run Tryd.prog w' = .ok (.bool R) w' := fun w' => by rw [eql_str w' _ _ _, ← HVS.out, HR.out]
    have HB3 := Lib.hid (HB2.out.trans (hb3.mono HB2.out.size))
    clear hf3 hb3
    go_wp2
    go_ret
    exact ⟨rfl, HB3.out⟩
  · rw [if_neg hcc, Nat.zero_add] at HDI
    go_wp2_with fail
    refine (HEN.out _ _ _ HDI.out HES.out (fun x => by cases x)).mono ?_
    rintro e' w3 ⟨v3, rfl, hf3, hb3⟩
    obtain ⟨Av, nv, cv, rfl⟩ := hf3.form
    have cv3 := hf3.cv
    have cv4 : (convert 22 9 (.slice (some ⟨b, o, none⟩) N c3)).run Tryd.prog w3 = .ok (strV em) w3 := conv_str (S32.out.below hb3)
    have e1' := fun (w : World) (t : TypeId) (x y : Operand) (a b : List (BitVec 8)) => eqGuard_str (P := Tryd.prog) w .eql t x y a b
    have e2 : ∀ w', (binOp .eql 9 (strV (pssL k (N - n1 - s - 2) (8 * N - bits) hash K)) (strV em)).run Tryd.prog w' = .ok (.bool R) w' := fun w' => by rw [eql_str w' _ _ _, ← HVS.out, HR.out]
    have HB3 := Lib.hid (HB2.out.trans (hb3.mono HB2.out.size))
    clear hf3 hb3
    go_wp2
    go_ret
    exact ⟨rfl, HB3.out⟩
end Go.Proofs.YtnpaidieijlkkaaDoor
