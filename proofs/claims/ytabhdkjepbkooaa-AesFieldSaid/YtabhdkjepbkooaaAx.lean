/- aescore: Decrypt. -/
import Derived.Test.YtabhdkjepbkooaaAw
import Derived.Test.YtabhdkjepbkooaaStillR
import Derived.StillTailTactics
set_option linter.unusedVariables false
set_option linter.unusedSimpArgs false
namespace Go.Proofs.Ytabhdkjepbkooaa
open Go.RowKit
attribute [local go_sem] Try.zeroValue47 Try.zeroCells47_size Try.zeroCells47_ne
attribute [local go_sem] Oper.semAt_some

theorem putB_inv (s : List (BitVec 8)) : putB invL s = putV s := rfl
theorem putV_length (s : List (BitVec 8)) : (putV s).length = 16 := st16_length _
theorem still_value {P : Program} {w : World} {ops : Array Oper} {rest : List Oper} {o : Oper} {a : Act} {Q : Act → Prop} (v : Value) (hw : Region.wanted o (yielded ops a.tmps) = true) (hr : (execOp a.eval o).run P w = .ok (.value v) w) (h : wpStill P ops w Q rest (a.put o.dst v)) : wpStill P ops w Q (o :: rest) a :=
  wpStill_step fun K hK => by
    rw [if_pos hw]
    unfold Oper.still
    rw [hr]
    exact ⟨rfl, hK _ h⟩
theorem still_load_mid {P : Program} {w : World} {ops : Array Oper} {rest : List Oper} {o : Oper} {a : Act} {Q : Act → Prop} (hw : Region.wanted o (yielded ops a.tmps) = true) (ty : TypeId) (x : Operand) (ho : o.op = .load ty x)
    (b off : Nat) (hx : a.eval x = .pointer (some ⟨b, off, none⟩)) (cs : List Value) (d : TypeDesc) (hc : w.rangeAt b off cs)
    (hu : P.underlying ty = some d) (hd : d.isRow = true) (hi : (P.info? ty).map (·.size) = some cs.length) (h : wpStill P ops w Q rest (a.put o.dst (.agg cs.toArray))) : wpStill P ops w Q (o :: rest) a :=
  still_value (.agg cs.toArray) hw (by unfold execOp; simp only [ho, hx, Instr.loadAt, Instr.sureAddr, Sem.run_bind, Sem.run_pure, Result.andThen_ok, run_loadVar_mid w b off ty cs d hc hu hd hi]) h
/-- how far Decrypt has come -/
def DecI (w0 : World) (g last C : Nat) (ks : List (List (BitVec 8))) (b : List (BitVec 8)) (pre : List BkX) (W : World) : Prop :=
  OnlyV w0 W g ∧ RowV 50 W g ((decL last (C - pre.length) (ks.drop (C - pre.length)) b).map W8)
theorem DecI.own (w0 : World) (g last C : Nat) (ks : List (List (BitVec 8))) (b : List (BitVec 8)) : OwnFrom w0.heap.size (DecI w0 g last C ks b) := fun s W W' row hs hg hr =>
  ⟨hs.1.grown hg (fun r e => (hr r e).1), hs.2.kept hg (fun r e => (hr r e).2)⟩
theorem BkR.own (bs : List (BitVec 8)) (C B : Nat) (pre : List BkX) : OwnFrom B (BkR bs C pre) := fun _ _ _ _ hs _ _ => hs
/-- the variable of a round: a block of its own that holds the key -/
def BkA (x : BkX) (W : World) (bw : Nat) (W' : World) : Prop := W.heap.size = bw ∧ RowV 49 W' bw (x.k.map W8)
set_option maxRecDepth 100000 in
set_option maxHeartbeats 8000000 in
theorem decrypt_any (w : World) (g : Nat) (key : List (BitVec 8)) (hR : CipherR w g key) (B : Nat) (A : Option Addr) (n c : Nat) (bs : List (BitVec 8)) (hs : SlV w B A n c (bs.map W8)) (hB : B ≤ w.heap.size) (hn : n = 16) : Calls Try.prog 11 #[.pointer (some ⟨g, 0, none⟩), .slice A n c] w fun e w' =>
    ∃ g', e = .returned (.slice (some ⟨g', 0, none⟩) 16 16) ∧ w.heap.size ≤ g' ∧ RowV 50 w' g' ((decA key bs).map W8) ∧ Below w.heap.size w w' := by
  have hbl : bs.length = 16 := by have := hs.len; simp at this; omega
  have htk := takes_any w g key hR A n c hn
  obtain ⟨gk, hrg, hrk⟩ := hR.rows
  obtain ⟨C, hC⟩ : ∃ C, cntL key.length = C := ⟨_, rfl⟩
  have hCb : 11 ≤ C ∧ C ≤ 15 := by rw [← hC]; unfold cntL; rcases hR.len with h | h | h <;> omega
  rw [hC] at hrg
  obtain ⟨b, off, v0, rfl, hlt, hv0, _⟩ := hs.at_ (k := 0) (by omega)
  have hrng : w.rangeAt b off (bs.map W8) := by
    obtain ⟨b', o', e, _, hc⟩ := hs.2.2.2 (by intro e; rw [e] at hv0; simp at hv0)
    injection e with e
    injection e with e1 e2
    subst e1 e2
    exact hc
  subst hn
  have hltw : b < w.heap.size := by omega
  clear hv0 hs hlt
  obtain ⟨z, hz⟩ : ∃ z, w.heap.size = z := ⟨_, rfl⟩
  have hgz : g < z := by rw [← hz]; exact hrg.lt
  have hkz : gk < z := by rw [← hz]; exact hrk.lt
  rw [hz] at hltw
  have hsb := sbox_any w
  rw [hz] at hsb
  have HTK := Lib.hid htk
  have HSB := Lib.hid hsb
  have HZ := Lib.hid hz
  have HRG := Lib.hid hrg
  have HRK := Lib.hid hrk
  have HRN := Lib.hid hrng
  have HC := Lib.hid hC
  have HBL := Lib.hid hbl
  have hlb : (invL.map W8).length = 256 := by kernel_rfl
  have k1 : (11 : Int) ≤ C := by omega
  have k2 : (C : Int) ≤ 15 := by omega
  obtain ⟨last, hlast⟩ : ∃ l, C - 1 = l := ⟨_, rfl⟩
  have hlI : (C : Int) - 1 = (last : Int) := by omega
  have HLA := Lib.hid hlast
  have hKL := hR.len
  clear htk hsb hz hrg hrk hrng hC hR hlast
  refine (callsIn_wide (n := 9)).1 ?_
  refine callsIn_of_wp_marks Try.func11 rfl trivial ?_ rfl
  simp only [Try.ntmps11, List.size_toArray, List.length_cons, List.length_nil, Nat.reduceAdd, Nat.reduceSub, Array.replicate_succ, Array.replicate_zero, List.push_toArray, List.append_toArray, List.nil_append, List.cons_append]
  gi_wp2_with fail
  refine ⟨trivial, (callsIn_wide.2 HTK.out).mono ?_⟩
  rintro e w' ⟨rfl, rfl⟩
  gi_wp2_with fail
  refine ⟨trivial, (callsIn_wide.2 HSB.out).mono ?_⟩
  rintro e V0 ⟨rfl, b0⟩
  gi_wp2_with fail
  refine ⟨trivial, (callsIn_wide.2 (inverse_any V0 boxL boxL_length)).mono ?_⟩
  rintro e V1 ⟨rfl, b1'⟩
  rw [invN_box]
  have b1 : Below z w V1 := b0.trans (b1'.mono (by have := b0.size; have := HZ.out; omega))
  clear b0 b1'
  obtain ⟨V2, e2, r2, b2, z2⟩ := new256 V1
  obtain ⟨g5, hg5⟩ : ∃ x, V1.heap.size = x := ⟨_, rfl⟩
  have hz5 : z ≤ g5 := by have := b1.size; have := HZ.out; omega
  rw [hg5] at r2 b2
  obtain ⟨V3, e3⟩ : ∃ V, V2.setCells g5 0 (invL.map W8) = V := ⟨_, rfl⟩
  have r3 : RowV 47 V3 g5 (invL.map W8) := by rw [← e3]; exact r2.setAll _ (by rw [hlb]; simp)
  have b3 : Below z w V3 := by rw [← e3]; exact below_setMany hz5 _ 0 w V2 (b1.trans (b2.mono hz5))
  have th2 := r2.thereAll (invL.map W8).toArray.size (by rw [List.size_toArray, hlb]; simp)
  obtain ⟨V4, e4, r4, b4, z4⟩ := newV V3 3 [.int .i64 0] #[.int .i64 0] rfl
  obtain ⟨g6, hg6⟩ : ∃ x, V3.heap.size = x := ⟨_, rfl⟩
  have h56 : g5 < g6 := by rw [← hg6]; exact r3.lt
  rw [hg6] at r4 b4
  have c6 := r4.at_ (i := 0) (v := .int .i64 0) rfl
  have f6 := r4.frozen 0
  obtain ⟨V5, e5⟩ : ∃ V, V4.setCell ⟨g6, 0, none⟩ (.int .i64 (last : Int)) = V := ⟨_, rfl⟩
  have r5 : RowV 3 V5 g6 [.int .i64 (last : Int)] := by rw [← e5]; exact r4.set 0 _
  have b35 : Below g6 V3 V5 := by rw [← e5]; exact below_setV b4 (Nat.le_refl _) 0 _
  obtain ⟨V6, e6, r6, b6, z6⟩ := newZ V5
  obtain ⟨g7, hg7⟩ : ∃ x, V5.heap.size = x := ⟨_, rfl⟩
  have h67 : g6 < g7 := by rw [← hg7]; exact r5.lt
  rw [hg7] at r6 b6
  have hbm : (bs.map W8).length = 16 := by rw [List.length_map]; exact HBL.out
  obtain ⟨V7, e7⟩ : ∃ V, V6.setCells g7 0 (bs.map W8) = V := ⟨_, rfl⟩
  have r7 : RowV 50 V7 g7 (bs.map W8) := by rw [← e7]; exact r6.setAll _ (by rw [hbm]; simp)
  have th6 := r6.thereAll (bs.map W8).toArray.size (by rw [List.size_toArray, hbm]; simp)
  have b57 : Below g7 V5 V7 := by rw [← e7]; exact below_setMany (Nat.le_refl _) _ 0 V5 V6 b6
  have b05 : Below z w V5 := b3.trans (b35.mono (by omega))
  have b07 : Below z w V7 := b05.trans (b57.mono (by omega))
  have cg : V3.cell? ⟨g, 0, none⟩ = some (.slice (some ⟨gk, 0, none⟩) C C) := (HRG.out.below b3 hgz).at_ rfl
  have hrng5 : V5.rangeAt b off (bs.map W8) := fun j v hv => (b05.cell (p := ⟨b, off + j, none⟩) hltw).trans (HRN.out j v hv)
  have hat : ∀ w, (Instr.arrayAt 50 (.slice (some ⟨b, off, none⟩) 16 c)).run Try.prog w = .ok (.pointer (some ⟨b, off, none⟩)) w := fun w => by
    simp [Instr.arrayAt, run_underlying Try.underlying50]
  have HR5 := Lib.hid ((r3.below b35 h56).below b57 (by omega))
  have HR6 := Lib.hid (r5.below b57 h67)
  have HR7 := Lib.hid r7
  have HB7 := Lib.hid b07
  have cg7 : V7.cell? ⟨g, 0, none⟩ = some (.slice (some ⟨gk, 0, none⟩) C C) := (HRG.out.below b07 hgz).at_ rfl
  have hky := back_any V7 gk C
  have HKY := Lib.hid hky
  have HWL := Lib.hid (show (wholeL key).length = 16 * C by rw [wholeL_length key hKL, HC.out])
  have HL := Lib.hid (And.intro hz5 (And.intro h56 h67))
  clear b1 b2 b3 b4 b35 b6 b57 b05 b07 r2 r3 r4 r5 r6 r7 z2 z4 z6 hky hz5
  gi_wp2_with (first | ((with_reducible show wpListIn _ _ _ _ _ (⟨some 24, _, _, _, _, _⟩ :: _) _ _); refine wpListIn_load_mid rfl 50 _ rfl b off rfl (bs.map W8) _ hrng5 Try.underlying50 rfl (Try.arrS.trans (by rw [hbm])) ?_) | ((with_reducible show wpListIn _ _ _ _ _ (⟨none, Op.store 47 _ _, _, _, _, _⟩ :: _) _ _); refine wpListIn_store_mid rfl 47 _ _ rfl g5 0 (invL.map W8).toArray rfl rfl th2 (Try.arr256.trans (by rw [List.size_toArray, hlb])) (all_oneCell_toArray (ones8 invL)) ?_; (try rw [List.toList_toArray]); rw [e3]) | ((with_reducible show wpListIn _ _ _ _ _ (⟨none, Op.store 50 _ _, _, _, _, _⟩ :: _) _ _); refine wpListIn_store_mid rfl 50 _ _ rfl g7 0 (bs.map W8).toArray rfl rfl th6 (Try.arrS.trans (by rw [List.size_toArray, hbm])) (all_oneCell_toArray (ones8 bs)) ?_; (try rw [List.toList_toArray]); rw [e7]))
  refine ⟨trivial, (callsIn_wide.2 HKY.out).mono ?_⟩
  rintro e V8 ⟨g1, rfl, hg1, hr1, hb8⟩
  have hg7l : g7 < V7.heap.size := HR7.out.lt
  have hkl8 : RowV 49 V8 gk ((wholeL key).map W8) := (HRK.out.below HB7.out hkz).later hb8
  have hl := HL.out
  have hseq := back1_in 8 (by decide) V8 g7 g1 gk C (wholeL key) hr1 hkl8 (by rw [wholeL_length key hKL, HC.out]) (by omega) (by omega) (by omega)
  have HSEQ := Lib.hid hseq
  have HR58 := Lib.hid (HR5.out.later hb8)
  have HR68 := Lib.hid (HR6.out.later hb8)
  have HR78 := Lib.hid (HR7.out.later hb8)
  have hz7 : z ≤ V7.heap.size := by have := HB7.out.size; have := HZ.out; omega
  have HB8 := Lib.hid (HB7.out.trans (hb8.mono hz7))
  have hg78 : g7 < V8.heap.size := HR78.out.lt
  have HKL := Lib.hid hKL
  clear hseq hb8 hkl8 hr1 hKL
  gi_wp2_with fail
  refine wpIn_rangeB rfl (by decide) (gf := 43) (lb := #[.pointer (some ⟨g1, 0, none⟩)]) rfl trivial (enters_of Try.func43 (by kernel_rfl) rfl)
    HSEQ.out (fun a b => a.trans b) (fun W l o o' hl ho _ _ => KpE.put hl ho) (fun _ => rfl)
    (DecI V8 g7 last C (keysL key) bs) (fun _ _ _ => False) (DecI.own _ _ _ _ _ _) (fun _ _ _ _ _ h _ _ => h.elim) (fun pre => BkR.own _ _ _ pre) ?hI0 (fun A B hA hb => KpE.below hb hA)
    ?ax BkA ?assign ?hBx ?body ?done ?stop
  case hI0 =>
    refine ⟨OnlyV.refl _ _, ?_⟩
    rw [List.length_nil, Nat.sub_zero, List.drop_of_length_le (by rw [keysL_length, HC.out]; exact Nat.le_refl _)]
    exact HR78.out
  case assign =>
    rintro l pre x W K hW ⟨hx, hd⟩ hK
    have hxl : x.k.length = 16 := by
      have h2 := HWL.out
      rw [hd]; unfold keyAt; simp; omega
    obtain ⟨W1', e1', r1', b1', z1'⟩ := new16 W
    obtain ⟨bw, hbw⟩ : ∃ b, W.heap.size = b := ⟨_, rfl⟩
    rw [hbw] at r1' b1'
    have hxm : (x.k.map W8).length = 16 := by rw [List.length_map]; exact hxl
    have hth := r1'.thereAll (x.k.map W8).toArray.size (by rw [List.size_toArray, hxm]; simp)
    obtain ⟨W2', e2'⟩ : ∃ V, W1'.setCells bw 0 (x.k.map W8) = V := ⟨_, rfl⟩
    have hr2 : RowV 49 W2' bw (x.k.map W8) := by rw [← e2']; exact r1'.setAll _ (by rw [hxm]; simp)
    have hb2 : Below bw W W2' := by rw [← e2']; exact below_setMany (Nat.le_refl _) _ 0 W W1' b1'
    have hK2 := hK _ W2' (by rw [hbw]; exact hb2) ⟨bw, rfl, hbw, hr2⟩
    clear r1' b1' z1' hd hx hK
    gi_wp2_with (first | ((with_reducible show wpListIn _ _ _ _ _ (⟨none, Op.store 49 _ _, _, _, _, _⟩ :: _) _ _); refine wpListIn_store_mid rfl 49 _ _ rfl bw 0 (x.k.map W8).toArray rfl rfl hth (Try.arr16.trans (by rw [List.size_toArray, hxm])) (all_oneCell_toArray (ones8 x.k)) ?_; (try rw [List.toList_toArray]); rw [e2']))
    exact hK2
  case hBx =>
    rintro x W bw W' o' ⟨h2, h3⟩ l o hl hlW ho hoc
    exact ⟨h2, (World.putObj_heap_other (by omega)).trans h3⟩
  case body =>
    rintro l pre ⟨xi, kb⟩ W0 bw W hz0 ⟨hbw, hrb⟩ ⟨hO, hS⟩ ⟨hxi, hxk⟩ hpl
    dsimp only at hxi hxk hrb
    obtain ⟨st, hst⟩ : ∃ l, decL last (C - pre.length) ((keysL key).drop (C - pre.length)) bs = l := ⟨_, rfl⟩
    rw [hst] at hS
    have hst16 : st.length = 16 := by rw [← hst]; exact decL_length _ _ _ _ HBL.out
    have hkb : (keysL key)[xi]? = some kb := by rw [hxk]; exact keysL_get key xi (by rw [HC.out]; omega)
    have hkbl : kb.length = 16 := by have h2 := HWL.out; rw [hxk]; unfold keyAt; simp; omega
    have hnew : decL last (C - (pre.length + 1)) ((keysL key).drop (C - (pre.length + 1))) bs = decR last xi kb st := by
      rw [show C - (pre.length + 1) = xi by omega, decL_drop _ _ _ _ _ hkb, ← hst, show C - pre.length = xi + 1 by omega]
    have HNEW := Lib.hid hnew
    have HRWW := Lib.hid hS
    have HOWW := Lib.hid hO
    have HOW := Lib.hid hO
    have hbg : bw ≠ g7 := by omega
    have hsk : SlV W W.heap.size (some ⟨bw, 0, none⟩) 16 16 (kb.map W8) := by have h := hrb.sl (by simp [hkbl]); rwa [List.length_map, hkbl] at h
    have HSK := Lib.hid hsk
    have HXI := Lib.hid hxi
    clear hst hS hO hkb hnew hxi hxk hsk hrb hbw hz0 hpl
    gi_wp2_with fail
    refine wpIn_region_still_tailR 2 (by kernel_rfl) (by kernel_rfl) (by kernel_rfl) (by rintro ⟨a, w, h⟩; exact h) ?_
    simp only [List.take_succ_cons, List.take_zero, List.drop_succ_cons, List.drop_zero]
    show wpStill _ _ (World.drew _) (fun a' => wpList _ _ _ _ a' (World.drew _)) _ _
    generalize hVd : World.drew _ = Vd
    have hrd : RowV 50 Vd g7 (st.map W8) := by rw [← hVd]; exact HRWW.out
    have hod : OnlyV W Vd g7 := by rw [← hVd]; exact (OnlyV.refl W g7).drewN 1
    have hsd : SlV Vd Vd.heap.size (some ⟨bw, 0, none⟩) 16 16 (kb.map W8) := by rw [← hVd]; exact HSK.out
    have hlm : (st.map W8).length = 16 := by rw [List.length_map]; exact hst16
    refine still_load_mid (by rfl) 50 _ rfl g7 0 rfl (st.map W8) _ hrd.range0 Try.underlying50 rfl (Try.arrS.trans (by rw [hlm])) ?_
    refine wpStill_step (fun K hK => ?_); go_simp; refine hK _ ?_; clear hK K
    refine wpStill_nil ?_
    go_wp2_with fail
    refine (add_any Vd st hst16 Vd.heap.size (some ⟨bw, 0, none⟩) 16 16 kb hsd (Nat.le_refl _) rfl).mono ?_
    rintro e U1 ⟨rfl, hbWa⟩
    obtain ⟨s1, hs1⟩ : ∃ l, addV st kb = l := ⟨_, rfl⟩
    have hs1l : s1.length = 16 := by rw [← hs1]; exact addV_length _ _
    rw [hs1]
    have HS1 := Lib.hid hs1
    have HRWVd := Lib.hid hrd
    have HOWVd := Lib.hid (show OnlyV V8 Vd g7 from HOW.out.trans hod)
    have HOOVd := Lib.hid hod
    clear hrd hod hsd hs1 hVd
    have lmVd : (st.map W8).length = 16 := by rw [List.length_map]; exact hst16
    have rgVd := HRWVd.out.range0
    have rbVd := (HR58.out.only HOWVd.out (show g5 ≠ g7 by omega)).range0
    have clVd : Vd.cell? ⟨g6, 0, none⟩ = some (.int .i64 (last : Int)) := (HR68.out.only HOWVd.out (show g6 ≠ g7 by omega)).at_ rfl
    have rUWa := HRWVd.out.later hbWa
    obtain ⟨Wa, eWa⟩ : ∃ V, U1.setCells g7 0 (s1.map W8) = V := ⟨_, rfl⟩
    have lm2Wa : (s1.map W8).length = 16 := by rw [List.length_map]; exact hs1l
    have thWa := rUWa.thereAll (s1.map W8).toArray.size (by rw [List.size_toArray, lm2Wa, lmVd])
    have HRWWa := Lib.hid (show RowV 50 Wa g7 (s1.map W8) by rw [← eWa]; exact rUWa.setAll _ (by rw [lm2Wa, lmVd]))
    have HOWWa := Lib.hid (show OnlyV V8 Wa g7 by rw [← eWa]; exact OnlyV.sets _ _ _ (HOWVd.out.trans (OnlyV.of_below hbWa g7)))
    have HOOWa := Lib.hid (show OnlyV W Wa g7 by rw [← eWa]; exact OnlyV.sets _ _ _ (HOOVd.out.trans (OnlyV.of_below hbWa g7)))
    clear rUWa hbWa rgVd rbVd clVd
    go_wp2_with (((with_reducible show wpList _ _ _ (⟨none, Op.store 50 _ _, _, _, _, _⟩ :: _) _ _); refine wpList_store_mid rfl 50 _ _ rfl g7 0 (s1.map W8).toArray rfl rfl thWa (Try.arrS.trans (by rw [List.size_toArray, lm2Wa])) (all_oneCell_toArray (ones8 s1)) ?_; (try rw [List.toList_toArray]); rw [eWa]))
    by_cases hp0 : xi = 0
    · have hp0I : ¬ (0 : Int) < (xi : Int) := by omega
      have HP0 := Lib.hid hp0
      clear hp0
      gi_wp2
      refine ⟨⟨HOOWa.out.size, fun k o hk hh _ => (HOOWa.out.block k (Array.getElem?_eq_some_iff.1 hh).1 (fun e => by injection e; omega)).trans hh⟩, KpE.only HOOWa.out HOW.out.size, HOWWa.out, ?_⟩
      rw [List.length_append, List.length_singleton, HNEW.out]
      have h := HRWWa.out
      rw [← HS1.out] at h
      unfold decR
      rw [if_neg (by have := HP0.out; omega)]
      exact h
    · have hp0I : (0 : Int) < (xi : Int) := by omega
      have HP0 := Lib.hid hp0
      clear hp0
      by_cases hpl2 : xi < last
      · have hplI : (xi : Int) < (last : Int) := by omega
        have lmWa : (s1.map W8).length = 16 := by rw [List.length_map]; exact hs1l
        have rgWa := HRWWa.out.range0
        have rbWa := (HR58.out.only HOWWa.out (show g5 ≠ g7 by omega)).range0
        have clWa : Wa.cell? ⟨g6, 0, none⟩ = some (.int .i64 (last : Int)) := (HR68.out.only HOWWa.out (show g6 ≠ g7 by omega)).at_ rfl
        gi_wp2_with (first | ((with_reducible show wpListIn _ _ _ _ _ (⟨some 42, _, _, _, _, _⟩ :: _) _ _); refine wpListIn_load_mid rfl 50 _ rfl g7 0 rfl (s1.map W8) _ rgWa Try.underlying50 rfl (Try.arrS.trans (by rw [lmWa])) ?_))
        refine ⟨trivial, (CallsIn.inRound l (callsIn_wide.2 (unmix_any Wa s1 hs1l))).mono ?_⟩
        rintro e U2 ⟨rfl, hbWb⟩
        obtain ⟨s2, hs2⟩ : ∃ l, mixS (mixS (mixS s1)) = l := ⟨_, rfl⟩
        have hs2l : s2.length = 16 := by rw [← hs2]; exact mixS_length _
        rw [hs2]
        have HS2 := Lib.hid hs2
        have rUWb := HRWWa.out.later hbWb
        obtain ⟨Wb, eWb⟩ : ∃ V, U2.setCells g7 0 (s2.map W8) = V := ⟨_, rfl⟩
        have lm2Wb : (s2.map W8).length = 16 := by rw [List.length_map]; exact hs2l
        have thWb := rUWb.thereAll (s2.map W8).toArray.size (by rw [List.size_toArray, lm2Wb, lmWa])
        have HRWWb := Lib.hid (show RowV 50 Wb g7 (s2.map W8) by rw [← eWb]; exact rUWb.setAll _ (by rw [lm2Wb, lmWa]))
        have HOWWb := Lib.hid (show OnlyV V8 Wb g7 by rw [← eWb]; exact OnlyV.sets _ _ _ (HOWWa.out.trans (OnlyV.of_below hbWb g7)))
        have HOOWb := Lib.hid (show OnlyV W Wb g7 by rw [← eWb]; exact OnlyV.sets _ _ _ (HOOWa.out.trans (OnlyV.of_below hbWb g7)))
        clear rUWb hbWb rgWa rbWa clWa
        clear hs2
        have lmWb : (s2.map W8).length = 16 := by rw [List.length_map]; exact hs2l
        have rgWb := HRWWb.out.range0
        have rbWb := (HR58.out.only HOWWb.out (show g5 ≠ g7 by omega)).range0
        have clWb : Wb.cell? ⟨g6, 0, none⟩ = some (.int .i64 (last : Int)) := (HR68.out.only HOWWb.out (show g6 ≠ g7 by omega)).at_ rfl
        gi_wp2_with (first | ((with_reducible show wpListIn _ _ _ _ _ (⟨none, Op.store 50 _ _, _, _, _, _⟩ :: _) _ _); refine wpListIn_store_mid rfl 50 _ _ rfl g7 0 (s2.map W8).toArray rfl rfl thWb (Try.arrS.trans (by rw [List.size_toArray, lm2Wb])) (all_oneCell_toArray (ones8 s2)) ?_; (try rw [List.toList_toArray]); rw [eWb]) | ((with_reducible show wpListIn _ _ _ _ _ (⟨some 46, _, _, _, _, _⟩ :: _) _ _); refine wpListIn_load_mid rfl 50 _ rfl g7 0 rfl (s2.map W8) _ rgWb Try.underlying50 rfl (Try.arrS.trans (by rw [lmWb])) ?_) | ((with_reducible show wpListIn _ _ _ _ _ (⟨some 47, _, _, _, _, _⟩ :: _) _ _); refine wpListIn_load_mid rfl 47 _ rfl g5 0 rfl (invL.map W8) _ rbWb Try.underlying47 rfl (Try.arr256.trans (by rw [hlb])) ?_))
        refine ⟨trivial, (CallsIn.inRound l (callsIn_wide.2 (putBack_any Wb s2 hs2l invL invL_length))).mono ?_⟩
        rintro e U3 ⟨rfl, hbWc⟩
        obtain ⟨s3, hs3⟩ : ∃ l, putV s2 = l := ⟨_, rfl⟩
        have hs3l : s3.length = 16 := by rw [← hs3]; exact putV_length _
        rw [putB_inv, hs3]
        have HS3 := Lib.hid hs3
        have rUWc := HRWWb.out.later hbWc
        obtain ⟨Wc, eWc⟩ : ∃ V, U3.setCells g7 0 (s3.map W8) = V := ⟨_, rfl⟩
        have lm2Wc : (s3.map W8).length = 16 := by rw [List.length_map]; exact hs3l
        have thWc := rUWc.thereAll (s3.map W8).toArray.size (by rw [List.size_toArray, lm2Wc, lmWb])
        have HRWWc := Lib.hid (show RowV 50 Wc g7 (s3.map W8) by rw [← eWc]; exact rUWc.setAll _ (by rw [lm2Wc, lmWb]))
        have HOWWc := Lib.hid (show OnlyV V8 Wc g7 by rw [← eWc]; exact OnlyV.sets _ _ _ (HOWWb.out.trans (OnlyV.of_below hbWc g7)))
        have HOOWc := Lib.hid (show OnlyV W Wc g7 by rw [← eWc]; exact OnlyV.sets _ _ _ (HOOWb.out.trans (OnlyV.of_below hbWc g7)))
        clear rUWc hbWc rgWb rbWb clWb
        clear hs3
        gi_wp2_with (first | ((with_reducible show wpListIn _ _ _ _ _ (⟨none, Op.store 50 _ _, _, _, _, _⟩ :: _) _ _); refine wpListIn_store_mid rfl 50 _ _ rfl g7 0 (s3.map W8).toArray rfl rfl thWc (Try.arrS.trans (by rw [List.size_toArray, lm2Wc])) (all_oneCell_toArray (ones8 s3)) ?_; (try rw [List.toList_toArray]); rw [eWc]))
        refine ⟨⟨HOOWc.out.size, fun k o hk hh _ => (HOOWc.out.block k (Array.getElem?_eq_some_iff.1 hh).1 (fun e => by injection e; omega)).trans hh⟩, KpE.only HOOWc.out HOW.out.size, HOWWc.out, ?_⟩
        rw [List.length_append, List.length_singleton, HNEW.out]
        have h := HRWWc.out
        rw [← HS3.out, ← HS2.out, ← HS1.out] at h
        unfold decR
        rw [if_pos (by have := HP0.out; omega), if_pos (by omega)]
        exact h
      · have hplI : ¬ (xi : Int) < (last : Int) := by omega
        have lmWa : (s1.map W8).length = 16 := by rw [List.length_map]; exact hs1l
        have rgWa := HRWWa.out.range0
        have rbWa := (HR58.out.only HOWWa.out (show g5 ≠ g7 by omega)).range0
        have clWa : Wa.cell? ⟨g6, 0, none⟩ = some (.int .i64 (last : Int)) := (HR68.out.only HOWWa.out (show g6 ≠ g7 by omega)).at_ rfl
        gi_wp2_with (first | ((with_reducible show wpListIn _ _ _ _ _ (⟨some 46, _, _, _, _, _⟩ :: _) _ _); refine wpListIn_load_mid rfl 50 _ rfl g7 0 rfl (s1.map W8) _ rgWa Try.underlying50 rfl (Try.arrS.trans (by rw [lmWa])) ?_) | ((with_reducible show wpListIn _ _ _ _ _ (⟨some 47, _, _, _, _, _⟩ :: _) _ _); refine wpListIn_load_mid rfl 47 _ rfl g5 0 rfl (invL.map W8) _ rbWa Try.underlying47 rfl (Try.arr256.trans (by rw [hlb])) ?_))
        refine ⟨trivial, (CallsIn.inRound l (callsIn_wide.2 (putBack_any Wa s1 hs1l invL invL_length))).mono ?_⟩
        rintro e U3 ⟨rfl, hbWc⟩
        obtain ⟨s3, hs3⟩ : ∃ l, putV s1 = l := ⟨_, rfl⟩
        have hs3l : s3.length = 16 := by rw [← hs3]; exact putV_length _
        rw [putB_inv, hs3]
        have HS3 := Lib.hid hs3
        have rUWc := HRWWa.out.later hbWc
        obtain ⟨Wc, eWc⟩ : ∃ V, U3.setCells g7 0 (s3.map W8) = V := ⟨_, rfl⟩
        have lm2Wc : (s3.map W8).length = 16 := by rw [List.length_map]; exact hs3l
        have thWc := rUWc.thereAll (s3.map W8).toArray.size (by rw [List.size_toArray, lm2Wc, lmWa])
        have HRWWc := Lib.hid (show RowV 50 Wc g7 (s3.map W8) by rw [← eWc]; exact rUWc.setAll _ (by rw [lm2Wc, lmWa]))
        have HOWWc := Lib.hid (show OnlyV V8 Wc g7 by rw [← eWc]; exact OnlyV.sets _ _ _ (HOWWa.out.trans (OnlyV.of_below hbWc g7)))
        have HOOWc := Lib.hid (show OnlyV W Wc g7 by rw [← eWc]; exact OnlyV.sets _ _ _ (HOOWa.out.trans (OnlyV.of_below hbWc g7)))
        clear rUWc hbWc rgWa rbWa clWa
        clear hs3
        gi_wp2_with (first | ((with_reducible show wpListIn _ _ _ _ _ (⟨none, Op.store 50 _ _, _, _, _, _⟩ :: _) _ _); refine wpListIn_store_mid rfl 50 _ _ rfl g7 0 (s3.map W8).toArray rfl rfl thWc (Try.arrS.trans (by rw [List.size_toArray, lm2Wc])) (all_oneCell_toArray (ones8 s3)) ?_; (try rw [List.toList_toArray]); rw [eWc]))
        refine ⟨⟨HOOWc.out.size, fun k o hk hh _ => (HOOWc.out.block k (Array.getElem?_eq_some_iff.1 hh).1 (fun e => by injection e; omega)).trans hh⟩, KpE.only HOOWc.out HOW.out.size, HOWWc.out, ?_⟩
        rw [List.length_append, List.length_singleton, HNEW.out]
        have h := HRWWc.out
        rw [← HS3.out, ← HS1.out] at h
        unfold decR
        rw [if_pos (by have := HP0.out; omega), if_neg (by omega)]
        exact h
  case done =>
    rintro D ys W hD hys ⟨hO, hS⟩ hK
    have he : decL last (C - ys.length) ((keysL key).drop (C - ys.length)) bs = decA key bs := by
      rw [hys, Nat.sub_self, List.drop_zero, ← HLA.out, ← HC.out]
      rfl
    rw [he] at hS
    have HS := Lib.hid hS
    have HO := Lib.hid hO
    have HD := Lib.hid hD
    clear he hS hO hys hD
    gi_wp2
    refine ⟨by simp, .inl ⟨_, _, rfl, run_takeDeferred hK, ?_⟩⟩
    have hgr := grownBy_putObj' W D (.deferred none)
    have hnc : ∀ r, some D = some r → ∃ o : Obj, W.heap[r]? = some o ∧ o.isCells = false := fun r e => by cases e; exact ⟨_, hK, rfl⟩
    refine ⟨.slice (some ⟨g7, 0, none⟩) 16 16, by simp [results, Try.f11, go_sem], g7, rfl, by rw [HZ.out]; omega, HS.out.kept hgr hnc, ?_⟩
    rw [HZ.out]
    have h8 := HB8.out.size
    rw [HZ.out] at h8
    have hzg : z ≤ g7 := by omega
    exact (HB8.out.trans (HO.out.below hzg h8)).grown hgr (by have := HO.out.size; omega) (fun r e => by cases e; have := HD.out; omega)
  case stop =>
    intro D c pre W _ _ h
    exact h.elim
end Go.Proofs.Ytabhdkjepbkooaa
