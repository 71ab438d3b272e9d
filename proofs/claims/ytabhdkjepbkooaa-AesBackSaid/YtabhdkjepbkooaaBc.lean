/- aescore: products of elements. -/
import Derived.Test.YtabhdkjepbkooaaBb
set_option linter.unusedVariables false
set_option linter.unusedSimpArgs false
namespace Go.Proofs.Ytabhdkjepbkooaa
open Go.RowKit

theorem onesE (a b : BitVec 64) : Ones [W64 a, W64 b] := by
  intro v hv
  simp at hv
  rcases hv with rfl | rfl <;> rfl
theorem run_index2 (w : World) (a b : BitVec 64) (k : Nat) (x : BitVec 64) (hk : [a, b][k]? = some x) : (Instr.index 72 (.agg #[W64 a, W64 b]) (.int .i64 (k : Int))).run Try.prog w = .ok (W64 x) w := by
  have hkn : k < 2 := (List.getElem?_eq_some_iff.1 hk).1
  have h2 : k = 0 ∨ k = 1 := by omega
  rcases h2 with rfl | rfl <;> (simp at hk; subst hk; simp [Instr.index, run_underlying Try.underlying72, asIntOf, part, go_sem])
/-- how far the product has come: n terms -/
def TmI (E F : BitVec 128) (n : Nat) (g3 g4 g5 : Nat) (wr : World) : Prop :=
  ∃ zh zl fh fl : BitVec 64, RowV 61 wr g5 [W64 zh, W64 zl] ∧ RowV 61 wr g3 [W64 fh, W64 fl] ∧ RowV 61 wr g4 [W64 0, W64 0] ∧ zh ++ zl = partV E F n ∧ fh ++ fl = raiseN n F
theorem app_xor (a b c d : BitVec 64) : (a ^^^ c) ++ (b ^^^ d) = (a ++ b) ^^^ (c ++ d) := by
  apply BitVec.eq_of_getLsbD_eq
  intro i hi
  rw [BitVec.getLsbD_xor, BitVec.getLsbD_append, BitVec.getLsbD_append, BitVec.getLsbD_append]
  split <;> rw [BitVec.getLsbD_xor]
theorem msb_half (eh el : BitVec 64) (m k : Nat) (x : BitVec 64) (hx : [eh, el][m]? = some x) (hk : k < 64) : (eh ++ el).getMsbD (64 * m + k) = x.getMsbD k := by
  have hm : m = 0 ∨ m = 1 := by have := (List.getElem?_eq_some_iff.1 hx).1; simp at this; omega
  rcases hm with rfl | rfl
  · simp at hx; subst hx
    rw [BitVec.getMsbD_eq_getLsbD, BitVec.getMsbD_eq_getLsbD, BitVec.getLsbD_append, if_neg (by omega), decide_eq_true (by omega), decide_eq_true hk]
    simp only [Bool.true_and]
    congr 1; omega
  · simp at hx; subst hx
    rw [BitVec.getMsbD_eq_getLsbD, BitVec.getMsbD_eq_getLsbD, BitVec.getLsbD_append, if_pos (by omega), decide_eq_true (by omega), decide_eq_true hk]
    simp only [Bool.true_and]
    congr 1; omega
set_option maxRecDepth 100000 in
set_option maxHeartbeats 4000000 in
theorem etimes_any (w : World) (eh el fh0 fl0 : BitVec 64) : Calls Try.prog 36 #[EV eh el, EV fh0 fl0] w fun e w' => ∃ zh zl, e = .returned (EV zh zl) ∧ zh ++ zl = timesV (eh ++ el) (fh0 ++ fl0) ∧ Below w.heap.size w w' := by
  obtain ⟨W1, e1, r1, b1, z1⟩ := newE w eh el
  obtain ⟨W2, e2, r2, b2, z2⟩ := newE W1 fh0 fl0
  obtain ⟨W3, e3, r3, b3, z3⟩ := newE0 W2
  obtain ⟨W4, e4, r4, b4, z4⟩ := newE0 W3
  obtain ⟨g, hg⟩ : ∃ g, w.heap.size = g := ⟨_, rfl⟩
  have hB : Below g w W4 := by
    rw [← hg]
    exact b1.trans ((b2.mono b1.size).trans ((b3.mono (Nat.le_trans b1.size b2.size)).trans (b4.mono (Nat.le_trans b1.size (Nat.le_trans b2.size b3.size)))))
  have r1 := ((r1.later b2).later b3).later b4
  have r2 := (r2.later b3).later b4
  have r3 := r3.later b4
  obtain ⟨g3, hg3⟩ : ∃ x, W1.heap.size = x := ⟨_, rfl⟩
  obtain ⟨g4, hg4⟩ : ∃ x, W2.heap.size = x := ⟨_, rfl⟩
  obtain ⟨g5, hg5⟩ : ∃ x, W3.heap.size = x := ⟨_, rfl⟩
  rw [hg] at r1
  rw [hg3] at r2
  rw [hg4] at r3
  rw [hg5] at r4
  have l1 : g ≤ g3 ∧ g3 < g4 ∧ g4 < g5 := by omega
  have c10 := r1.at_ (i := 0) (v := W64 eh) rfl
  have c11 := r1.at_ (i := 1) (v := W64 el) rfl
  have HG := Lib.hid hg
  have h0 : TmI (eh ++ el) (fh0 ++ fl0) 0 g3 g4 g5 W4 := ⟨0, 0, fh0, fl0, r4, r2, r3, by rw [partV_zero]; rfl, rfl⟩
  have H0 := Lib.hid h0
  obtain ⟨E, hE⟩ : ∃ E : BitVec 128, @Eq (BitVec 128) (eh ++ el) E := ⟨_, rfl⟩
  obtain ⟨F, hF⟩ : ∃ F : BitVec 128, @Eq (BitVec 128) (fh0 ++ fl0) F := ⟨_, rfl⟩
  rw [hE, hF] at H0
  have HE := Lib.hid hE
  have HF := Lib.hid hF
  clear b1 b2 b3 b4 z1 z2 z3 z4 r1 r2 r3 r4 h0 hE hF
  go_enter Try.func36, Try.ntmps36
  go_wp2
  clear e1 e2 e3 e4 hg hg3 hg4 hg5 c10 c11
  go_loopw [14] (fun i wr => ∃ m : Nat, m ≤ 2 ∧ i = .int .i64 (m : Nat) ∧ Hid (TmI E F (64 * m) g3 g4 g5 wr) ∧ Below g w wr) (fun i _ => 2 - (intOf i).toNat)
  case atStart => exact ⟨0, by decide, rfl, H0, hB⟩
  case round =>
    obtain ⟨m, hm, rfl, HT, hBr⟩ := hrel
    obtain ⟨wo, rfl⟩ : ∃ V, V = wr := ⟨_, rfl⟩
    by_cases hm2 : m = 2
    · subst hm2
      obtain ⟨zh, zl, fh, fl, hz, _, hr, hze, _⟩ := HT.out
      have HZE := Lib.hid hze
      clear hze HT
      go_wp2_with (first | ((with_reducible show wpList _ _ _ (⟨some 32, _, _, _, _, _⟩ :: _) _ _); refine wpList_load_mid rfl 61 _ rfl g5 0 rfl [W64 zh, W64 zl] _ hz.range0 Try.underlying61 rfl Try.sizeE ?_) | ((with_reducible show wpList _ _ _ (⟨none, _, _, _, _, _⟩ :: _) _ _); refine wlv_store rfl 61 2 Try.sizeE _ _ rfl g4 [W64 zh, W64 zl] rfl rfl _ _ hr rfl rfl (onesE zh zl) ?_; intro w2 hr2 hb2 hz2))
      refine ⟨rfl, _, results_elem rfl _ g4 _ _ rfl hr2, zh, zl, rfl, ?_, ?_⟩
      · rw [HZE.out, HE.out, HF.out]; exact partV_all E F
      · rw [HG.out]; exact hb2 _ _ hBr (by omega)
    · have hmi : (m : Int) < 2 := by omega
      obtain ⟨wv, hwv⟩ : ∃ x, [eh, el][m]? = some x := ⟨_, List.getElem?_eq_getElem (show m < [eh, el].length by simp; omega)⟩
      have hix := run_index2 wo eh el m wv hwv
      have HWV := Lib.hid hwv
      clear hwv
      go_wp2
      go_loopw [17] (fun i wr => ∃ k : Nat, k ≤ 64 ∧ i = .int .i64 (k : Nat) ∧ Hid (TmI E F (64 * m + k) g3 g4 g5 wr) ∧ Below g w wr) (fun i _ => 64 - (intOf i).toNat)
      case atStart => exact ⟨0, by decide, rfl, HT, hBr⟩
      case round =>
        obtain ⟨k, hk, rfl, HT2, hBr2⟩ := hrel
        by_cases hk8 : k = 64
        · subst hk8
          go_wp2
          go_roundw
          case rel => exact ⟨m + 1, by omega, by go_num, HT2, hBr2⟩
          case measure => simp [intOf]; omega
        · have hki : (k : Int) < 64 := by omega
          have hkn : k < 64 := by omega
          obtain ⟨zh, zl, fh, fl, hz, hf, hr, hze, hfe⟩ := HT2.out
          have hbit : E.getMsbD (64 * m + k) = wv.getMsbD k := by rw [← HE.out]; exact msb_half eh el m k wv HWV.out hkn
          have hps := partV_succ E F (64 * m + k)
          rw [hbit, ← hze, ← hfe] at hps
          have htb := top_bit wv k hkn
          obtain ⟨s1, hs1⟩ : ∃ x, wv <<< k = x := ⟨_, rfl⟩
          have v1 : IntKind.u64.wrap (i64 wv * 2 ^ k) = i64 s1 := by rw [← hs1]; exact b64_shl wv k
          have v2 : i64 s1 / 9223372036854775808 = i64 (s1 >>> 63) := b64_shr s1 63
          rw [hs1] at htb
          have HRF := Lib.hid hf
          have HRR := Lib.hid hr
          have HFE := Lib.hid hfe
          by_cases hb : wv.getMsbD k = true
          · rw [if_pos hb] at htb hps
            rw [htb, show i64 (1 : BitVec 64) = 1 from rfl] at v2
            rw [← app_xor] at hps
            have rz := hz.range0
            have rf := hf.range0
            have HPS := Lib.hid hps
            have HZZ := Lib.hid hz
            have HBW2 := Lib.hid hBr2
            clear hps htb hbit hs1 hb hze hfe hz hf hr hBr2 HT2 HT hBr hix
            go_wp2_with (first | ((with_reducible show wpList _ _ _ (⟨some 25, _, _, _, _, _⟩ :: _) _ _); refine wpList_load_mid rfl 61 _ rfl g5 0 rfl [W64 zh, W64 zl] _ rz Try.underlying61 rfl Try.sizeE ?_) | ((with_reducible show wpList _ _ _ (⟨some 26, _, _, _, _, _⟩ :: _) _ _); refine wpList_load_mid rfl 61 _ rfl g3 0 rfl [W64 fh, W64 fl] _ rf Try.underlying61 rfl Try.sizeE ?_))
            refine (plus_any wr zh zl fh fl).mono ?_
            rintro e U1 ⟨rfl, hb1⟩
            obtain ⟨zh', hzh⟩ : ∃ x, zh ^^^ fh = x := ⟨_, rfl⟩
            obtain ⟨zl', hzl⟩ : ∃ x, zl ^^^ fl = x := ⟨_, rfl⟩
            rw [hzh, hzl] at HPS
            rw [hzh, hzl]
            obtain ⟨V1, eV1⟩ : ∃ V, U1.setCells g5 0 [W64 zh', W64 zl'] = V := ⟨_, rfl⟩
            have hrz1 := HZZ.out.later hb1
            have th1 := hrz1.thereAll 2 rfl
            have HO1 := Lib.hid (show OnlyV U1 V1 g5 by rw [← eV1]; exact OnlyV.sets _ _ _ (OnlyV.refl _ _))
            have HRZ := Lib.hid (show RowV 61 V1 g5 [W64 zh', W64 zl'] by rw [← eV1]; exact hrz1.setAll _ rfl)
            have HRF := Lib.hid ((HRF.out.later hb1).only HO1.out (show g3 ≠ g5 by omega))
            have HRR := Lib.hid ((HRR.out.later hb1).only HO1.out (show g4 ≠ g5 by omega))
            have hgz0 : g ≤ wr.heap.size := by have h1 := HBW2.out.size; have h2 := HG.out; omega
            have HBW := Lib.hid (show Below g w V1 by rw [← eV1]; exact below_setMany (by omega) _ 0 w U1 (HBW2.out.trans (hb1.mono hgz0)))
            have rf2 := HRF.out.range0
            have HPN := Lib.hid (show @Eq (BitVec 128) (zh' ++ zl') (partV E F (64 * m + k + 1)) from HPS.out.symm)
            clear hzh hzl hrz1 hb1 rz rf
            go_wp2_with (first | ((with_reducible show wpList _ _ _ (⟨none, _, _, _, _, _⟩ :: _) _ _); refine wpList_store_mid rfl 61 _ _ rfl g5 0 [W64 zh', W64 zl'].toArray rfl rfl th1 Try.sizeE (all_oneCell_toArray (onesE zh' zl')) ?_; (try rw [List.toList_toArray]); rw [eV1]) | ((with_reducible show wpList _ _ _ (⟨some 28, _, _, _, _, _⟩ :: _) _ _); refine wpList_load_mid rfl 61 _ rfl g3 0 rfl [W64 fh, W64 fl] _ rf2 Try.underlying61 rfl Try.sizeE ?_))
            refine (raise_any V1 fh fl).mono ?_
            rintro e U2 ⟨rfl, hb2⟩
            obtain ⟨fh', hfh⟩ : ∃ x, fh >>> 1 ^^^ ((fl &&& 1) * 0xe1) <<< 56 = x := ⟨_, rfl⟩
            obtain ⟨fl', hfl⟩ : ∃ x, fh <<< 63 ||| fl >>> 1 = x := ⟨_, rfl⟩
            have hre : @Eq (BitVec 128) (fh' ++ fl') (raiseN (64 * m + k + 1) F) := by
              rw [raiseN, ← HFE.out, raise_halves, hfh, hfl]
            rw [hfh, hfl]
            have HRE := Lib.hid hre
            obtain ⟨V2, eV2⟩ : ∃ V, U2.setCells g3 0 [W64 fh', W64 fl'] = V := ⟨_, rfl⟩
            have hrf3 := HRF.out.later hb2
            have th3 := hrf3.thereAll 2 rfl
            have hrz3 := HRZ.out.later hb2
            have hrr3 := HRR.out.later hb2
            have HO3 := Lib.hid (show OnlyV U2 V2 g3 by rw [← eV2]; exact OnlyV.sets _ _ _ (OnlyV.refl _ _))
            have HF3 := Lib.hid (show RowV 61 V2 g3 [W64 fh', W64 fl'] by rw [← eV2]; exact hrf3.setAll _ rfl)
            have HZ3 := Lib.hid (hrz3.only HO3.out (show g5 ≠ g3 by omega))
            have HR3 := Lib.hid (hrr3.only HO3.out (show g4 ≠ g3 by omega))
            have hgz : g ≤ V1.heap.size := by have h1 := HBW.out.size; have h2 := HG.out; omega
            have HB3 := Lib.hid (show Below g w V2 by rw [← eV2]; exact below_setMany (by omega) _ 0 w U2 (HBW.out.trans (hb2.mono hgz)))
            clear hfh hfl hre hrf3 hrz3 hrr3 hb2
            go_wp2_with ((with_reducible show wpList _ _ _ (⟨none, _, _, _, _, _⟩ :: _) _ _); refine wpList_store_mid rfl 61 _ _ rfl g3 0 [W64 fh', W64 fl'].toArray rfl rfl th3 Try.sizeE (all_oneCell_toArray (onesE fh' fl')) ?_; (try rw [List.toList_toArray]); rw [eV2])
            go_roundw
            case rel => exact ⟨k + 1, by omega, by go_num, Lib.hid ⟨_, _, fh', fl', HZ3.out, HF3.out, HR3.out, HPN.out, HRE.out⟩, HB3.out⟩
            case measure => simp [intOf]; omega
          · rw [if_neg hb] at htb hps
            rw [htb, show i64 (0 : BitVec 64) = 0 from rfl] at v2
            have rf := hf.range0
            have HPN := Lib.hid (show @Eq (BitVec 128) (zh ++ zl) (partV E F (64 * m + k + 1)) from hps.symm)
            have HRZ := Lib.hid hz
            have HBW := Lib.hid hBr2
            clear hps htb hbit hs1 hb hze hfe hz hf hr hBr2 HT2 HT hBr hix
            go_wp2_with ((with_reducible show wpList _ _ _ (⟨some 28, _, _, _, _, _⟩ :: _) _ _); refine wpList_load_mid rfl 61 _ rfl g3 0 rfl [W64 fh, W64 fl] _ rf Try.underlying61 rfl Try.sizeE ?_)
            refine (raise_any wr fh fl).mono ?_
            rintro e U2 ⟨rfl, hb2⟩
            obtain ⟨fh', hfh⟩ : ∃ x, fh >>> 1 ^^^ ((fl &&& 1) * 0xe1) <<< 56 = x := ⟨_, rfl⟩
            obtain ⟨fl', hfl⟩ : ∃ x, fh <<< 63 ||| fl >>> 1 = x := ⟨_, rfl⟩
            have hre : @Eq (BitVec 128) (fh' ++ fl') (raiseN (64 * m + k + 1) F) := by
              rw [raiseN, ← HFE.out, raise_halves, hfh, hfl]
            rw [hfh, hfl]
            have HRE := Lib.hid hre
            obtain ⟨V2, eV2⟩ : ∃ V, U2.setCells g3 0 [W64 fh', W64 fl'] = V := ⟨_, rfl⟩
            have hrf3 := HRF.out.later hb2
            have th3 := hrf3.thereAll 2 rfl
            have hrz3 := HRZ.out.later hb2
            have hrr3 := HRR.out.later hb2
            have HO3 := Lib.hid (show OnlyV U2 V2 g3 by rw [← eV2]; exact OnlyV.sets _ _ _ (OnlyV.refl _ _))
            have HF3 := Lib.hid (show RowV 61 V2 g3 [W64 fh', W64 fl'] by rw [← eV2]; exact hrf3.setAll _ rfl)
            have HZ3 := Lib.hid (hrz3.only HO3.out (show g5 ≠ g3 by omega))
            have HR3 := Lib.hid (hrr3.only HO3.out (show g4 ≠ g3 by omega))
            have hgz : g ≤ wr.heap.size := by have h1 := HBW.out.size; have h2 := HG.out; omega
            have HB3 := Lib.hid (show Below g w V2 by rw [← eV2]; exact below_setMany (by omega) _ 0 w U2 (HBW.out.trans (hb2.mono hgz)))
            clear hfh hfl hre hrf3 hrz3 hrr3 hb2
            go_wp2_with ((with_reducible show wpList _ _ _ (⟨none, _, _, _, _, _⟩ :: _) _ _); refine wpList_store_mid rfl 61 _ _ rfl g3 0 [W64 fh', W64 fl'].toArray rfl rfl th3 Try.sizeE (all_oneCell_toArray (onesE fh' fl')) ?_; (try rw [List.toList_toArray]); rw [eV2])
            go_roundw
            case rel => exact ⟨k + 1, by omega, by go_num, Lib.hid ⟨_, _, fh', fl', HZ3.out, HF3.out, HR3.out, HPN.out, HRE.out⟩, HB3.out⟩
            case measure => simp [intOf]; omega
end Go.Proofs.Ytabhdkjepbkooaa
