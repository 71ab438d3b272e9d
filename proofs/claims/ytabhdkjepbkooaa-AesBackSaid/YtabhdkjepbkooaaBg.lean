/- aescore: GHASH. -/
import Derived.Test.YtabhdkjepbkooaaBf
import Derived.Test.YtabhdkjepbkooaaTc
import Derived.Test.YtabhdkjepbkooaaAv
set_option linter.unusedVariables false
set_option linter.unusedSimpArgs false
namespace Go.Proofs.Ytabhdkjepbkooaa
open Go.RowKit
attribute [local go_sem] Oper.semAt_some

theorem exec_load_mid {P : Program} {w : World} {ρ : Operand → Value} {o : Oper} (ty : TypeId) (x : Operand) (ho : o.op = .load ty x) (b off : Nat) (hx : ρ x = .pointer (some ⟨b, off, none⟩)) (cs : List Value) (d : TypeDesc) (hc : w.rangeAt b off cs)
    (hu : P.underlying ty = some d) (hd : d.isRow = true) (hi : (P.info? ty).map (·.size) = some cs.length) : (execOp ρ o).run P w = .ok (.value (.agg cs.toArray)) w := by
  unfold execOp
  simp only [ho, hx, Instr.loadAt, Instr.sureAddr, Sem.run_bind, Sem.run_pure, Result.andThen_ok, run_loadVar_mid w b off ty cs d hc hu hd hi]
theorem exec_store_mid {P : Program} {w : World} {ρ : Operand → Value} {o : Oper} (ty : TypeId) (x y : Operand) (ho : o.op = .store ty x y) (b off : Nat) (cells : Array Value) (hx : ρ x = .pointer (some ⟨b, off, none⟩)) (hy : ρ y = .agg cells)
    (ht : w.there b off cells.size) (hi : (P.info? ty).map (·.size) = some cells.size) (h1 : cells.all (·.oneCell') = true) : (execOp ρ o).run P w = .ok .skip (w.setCells b off cells.toList) := by
  unfold execOp
  simp only [ho, hx, hy, Instr.storeAt, Instr.sureAddr, Sem.run_bind, Sem.run_pure, Result.andThen_ok, run_storeVar_mid w b off ty cells ht hi h1]
/-- the hash of the first j pieces -/
def ghN (K : BitVec 128) (bs : List (BitVec 8)) : Nat → BitVec 128
  | 0 => 0
  | j + 1 => timesV (ghN K bs j ^^^ elV (pieceK bs 16 j)) K
def ghA (K : BitVec 128) (bs : List (BitVec 8)) : BitVec 128 := ghN K bs ((bs.length + 15) / 16)
/-- the halves of an element -/
def hiV (v : BitVec 128) : BitVec 64 := (v >>> 64).setWidth 64
def loV (v : BitVec 128) : BitVec 64 := v.setWidth 64
theorem hi_app (a b : BitVec 64) : hiV (a ++ b) = a := by
  apply BitVec.eq_of_getLsbD_eq
  intro i hi
  unfold hiV
  rw [BitVec.getLsbD_setWidth, BitVec.getLsbD_ushiftRight, BitVec.getLsbD_append, if_neg (by omega)]
  simp [hi]
theorem lo_app (a b : BitVec 64) : loV (a ++ b) = b := by
  apply BitVec.eq_of_getLsbD_eq
  intro i hi
  unfold loV
  rw [BitVec.getLsbD_setWidth, BitVec.getLsbD_append, if_pos hi]
  simp [hi]
theorem app_halves (v : BitVec 128) : hiV v ++ loV v = v := by
  apply BitVec.eq_of_getLsbD_eq
  intro i hi
  rw [BitVec.getLsbD_append]
  unfold hiV loV
  by_cases h : i < 64
  · rw [if_pos h, BitVec.getLsbD_setWidth]; simp [h]
  · rw [if_neg h, BitVec.getLsbD_setWidth, BitVec.getLsbD_ushiftRight, show 64 + (i - 64) = i by omega]
    simp; omega
theorem etimes_det (w : World) (eh el fh0 fl0 : BitVec 64) : Calls Try.prog 36 #[EV eh el, EV fh0 fl0] w fun e w' => e = .returned (EV (hiV (timesV (eh ++ el) (fh0 ++ fl0))) (loV (timesV (eh ++ el) (fh0 ++ fl0)))) ∧ Below w.heap.size w w' := by
  refine (etimes_any w eh el fh0 fl0).mono ?_
  rintro e w' ⟨zh, zl, rfl, hz, hb⟩
  rw [← hz, hi_app, lo_app]
  exact ⟨rfl, hb⟩
/-- how far GHASH has come -/
def GhI (w0 : World) (g : Nat) (K : BitVec 128) (bs : List (BitVec 8)) (pre : List CkX) (W : World) : Prop :=
  OnlyV w0 W g ∧ (pre.length = 0 ∨ 16 * (pre.length - 1) < bs.length) ∧ RowV 61 W g [W64 (hiV (ghN K bs pre.length)), W64 (loV (ghN K bs pre.length))]
theorem GhI.own (w0 : World) (g : Nat) (K : BitVec 128) (bs : List (BitVec 8)) : OwnFrom w0.heap.size (GhI w0 g K bs) := fun s W W' row hs hg hr =>
  ⟨hs.1.grown hg (fun r e => (hr r e).1), hs.2.1, hs.2.2.kept hg (fun r e => (hr r e).2)⟩
set_option maxRecDepth 100000 in
set_option maxHeartbeats 8000000 in
theorem ghash_any (w : World) (B b1 o1 c1 : Nat) (h : List (BitVec 8)) (hh : SlV w B (some ⟨b1, o1, none⟩) 16 c1 (h.map W8)) (A : Option Addr) (b off n c : Nat) (hA : 0 < n → A = some ⟨b, off, none⟩) (bs : List (BitVec 8)) (hs : SlV w B A n c (bs.map W8)) (hn9 : n ≤ 1000000) (hB : B ≤ w.heap.size) :
    Calls Try.prog 16 #[.slice (some ⟨b1, o1, none⟩) 16 c1, .slice A n c] w fun e w' => ∃ g, e = .returned (.slice (some ⟨g, 0, none⟩) 16 16) ∧ w.heap.size ≤ g ∧ RowV 5 w' g ((byV (ghA (elV h) bs)).map W8) ∧ Below w.heap.size w w' := by
  have hhl : h.length = 16 := by have := hh.len; simp at this; omega
  have hbl : bs.length = n := by have := hs.len; simpa using this.symm
  have hcap := hs.cap
  have hcm := hs.max
  obtain ⟨z, hz⟩ : ∃ z, w.heap.size = z := ⟨_, rfl⟩
  have hte := toElement_any w B b1 o1 16 c1 h hh hB (by decide) (by decide)
  rw [hz] at hte hB
  have HTE := Lib.hid hte
  have HZ := Lib.hid hz
  have HS := Lib.hid hs
  have HBL := Lib.hid hbl
  have HHL := Lib.hid hhl
  clear hte hz hs hh hbl hhl
  obtain ⟨kh, hkh⟩ : ∃ x, hiE h = x := ⟨_, rfl⟩
  obtain ⟨kl, hkl⟩ : ∃ x, loE h = x := ⟨_, rfl⟩
  rw [hkh, hkl] at HTE
  have HKE := Lib.hid (show @Eq (BitVec 128) (kh ++ kl) (elV h) by rw [elV_halves h (by have := HHL.out; omega), hkh, hkl])
  clear hkh hkl
  refine (callsIn_wide (n := 9)).1 ?_
  refine callsIn_of_wp_marks Try.func16 rfl trivial ?_ rfl
  simp only [Try.ntmps16, List.size_toArray, List.length_cons, List.length_nil, Nat.reduceAdd, Nat.reduceSub, Array.replicate_succ, Array.replicate_zero, List.push_toArray, List.append_toArray, List.nil_append, List.cons_append]
  gi_wp2_with fail
  refine ⟨trivial, (callsIn_wide.2 HTE.out).mono ?_⟩
  rintro e V1 ⟨rfl, b1'⟩
  obtain ⟨V2, e2, r2, b2, z2⟩ := newE0 V1
  obtain ⟨g5, hg5⟩ : ∃ x, V1.heap.size = x := ⟨_, rfl⟩
  have hz5 : z ≤ g5 := by have := b1'.size; have := HZ.out; omega
  rw [hg5] at r2 b2
  obtain ⟨V3, e3⟩ : ∃ V, V2.setCells g5 0 [W64 kh, W64 kl] = V := ⟨_, rfl⟩
  have r3 : RowV 61 V3 g5 [W64 kh, W64 kl] := by rw [← e3]; exact r2.setAll _ rfl
  have b3 : Below z w V3 := by rw [← e3]; exact below_setMany hz5 _ 0 w V2 (b1'.trans (b2.mono hz5))
  have th2 := r2.thereAll 2 rfl
  obtain ⟨V4, e4, r4, b4, z4⟩ := newE0 V3
  obtain ⟨g6, hg6⟩ : ∃ x, V3.heap.size = x := ⟨_, rfl⟩
  have h56 : g5 < g6 := by rw [← hg6]; exact r3.lt
  rw [hg6] at r4 b4
  have b04 : Below z w V4 := b3.trans (b4.mono (by omega))
  have HR5 := Lib.hid (r3.below b4 h56)
  have HR6 := Lib.hid r4
  have HB4 := Lib.hid b04
  have hck := chunk_any V4 (.slice A n c) 16 (by decide) A n c rfl
  have HCK := Lib.hid hck
  have HL := Lib.hid (And.intro hz5 h56)
  clear b1' b2 b3 b4 b04 r2 r3 r4 z2 z4 hck hz5
  gi_wp2_with ((with_reducible show wpListIn _ _ _ _ _ (⟨none, _, _, _, _, _⟩ :: _) _ _); refine wpListIn_store_mid rfl 61 _ _ rfl g5 0 [W64 kh, W64 kl].toArray rfl rfl th2 Try.sizeE (all_oneCell_toArray (onesE kh kl)) ?_; (try rw [List.toList_toArray]); rw [e3])
  refine ⟨trivial, (callsIn_wide.2 HCK.out).mono ?_⟩
  rintro e V8 ⟨g1, g2, rfl, hg1, hg2, hr1, hr2, hb8⟩
  have hl := HL.out
  have hg64 : g6 < V4.heap.size := HR6.out.lt
  have hseq := chunk1_in 8 (by decide) V8 g6 g1 g2 b off n c 16 A hA bs HBL.out hr1 hr2 (by decide) (by decide) hcap hcm (by omega) (by omega) (by omega)
  have HSEQ := Lib.hid hseq
  have HR58 := Lib.hid (HR5.out.later hb8)
  have HR68 := Lib.hid (HR6.out.later hb8)
  have hz4 : z ≤ V4.heap.size := by have := HB4.out.size; have := HZ.out; omega
  have HB8 := Lib.hid (HB4.out.trans (hb8.mono hz4))
  have hg68 : g6 < V8.heap.size := HR68.out.lt
  clear hseq hb8 hr1 hr2
  gi_wp2_with fail
  refine wpIn_rangeP rfl (by decide) (gf := 46) (lb := #[.pointer (some ⟨g1, 0, none⟩), .pointer (some ⟨g2, 0, none⟩)]) rfl trivial (enters_of Try.func46 (by kernel_rfl) rfl)
    HSEQ.out (fun a b => a.trans b) (fun W l o o' hl ho _ _ => KpE.put hl ho) (fun _ => rfl)
    (GhI V8 g6 (elV h) bs) (fun _ _ _ => False) (GhI.own _ _ _ _) (fun _ _ _ _ _ h _ _ => h.elim) (fun pre => CkR.own _ _ _ _ _ pre) ?hI0 ?a1x ?assign ?body ?done ?stop
  case hI0 =>
    refine ⟨OnlyV.refl _ _, .inl rfl, ?_⟩
    rw [List.length_nil, ghN, show hiV 0 = 0 by decide, show loV 0 = 0 by decide]
    exact HR68.out
  case assign =>
    intro l x W K hK
    gi_wp2
    exact hK
  case body =>
    rintro l pre ⟨xi, Ap, np, cp⟩ W ⟨hO, _, hS⟩ ⟨hxi, hxl, hxA, hxn, hxc⟩ hpl
    dsimp only at hxi hxl hxA hxn hxc
    obtain ⟨p, hp⟩ : ∃ p, 16 * pre.length = p := ⟨_, rfl⟩
    rw [hp] at hxl hxA hxn
    have hn0 : 0 < n := by have := HBL.out; omega
    obtain rfl := hA hn0
    subst hxA
    have hxc2 := hxc.symm
    subst hxc2
    clear hxc
    have hbl2 := HBL.out
    have hnp : 0 < np ∧ np ≤ 16 ∧ p + np ≤ n := by omega
    have hpc : ((bs.map W8).drop p).take np = (pieceK bs 16 pre.length).map W8 := by
      unfold pieceK
      rw [hp, List.map_take, List.map_drop]
      by_cases h16 : 16 ≤ bs.length - p
      · rw [show np = 16 by omega]
      · rw [List.take_of_length_le (by simp; omega), List.take_of_length_le (by simp; omega)]
    obtain ⟨pc, hpce⟩ : ∃ l, pieceK bs 16 pre.length = l := ⟨_, rfl⟩
    rw [hpce] at hpc
    have hsw : SlV w B (some ⟨b, off + p, none⟩) np np (pc.map W8) := by
      have h1 := (HS.out.drop (k := p) (by omega)).take (k := np) (by omega)
      rw [hpc] at h1
      exact ⟨h1.1, Nat.le_refl _, by omega, h1.2.2.2⟩
    have hs8 := hsw.below (HB8.out.mono hB)
    have hsW : SlV W W.heap.size (some ⟨b, off + p, none⟩) np np (pc.map W8) := by
      have h1 : SlV V8 V8.heap.size (some ⟨b, off + p, none⟩) np np (pc.map W8) := hs8.more (by have := HB8.out.size; have := HZ.out; omega)
      refine h1.kept_only hO fun b' off' s' e => ?_
      obtain ⟨b2, o2, _, e2, hlt, _⟩ := hs8.at_ (k := 0) (by omega)
      injection e with e
      injection e2 with e2
      rw [e] at e2
      injection e2 with e3
      omega
    obtain ⟨Y, hY⟩ : ∃ Y, ghN (elV h) bs pre.length = Y := ⟨_, rfl⟩
    rw [hY] at hS
    have hpcl : pc.length ≤ 16 := by rw [← hpce]; unfold pieceK; simp; omega
    have hnew : ghN (elV h) bs (pre.length + 1) = timesV (Y ^^^ elV pc) (elV h) := by rw [ghN, hY, hpce]
    obtain ⟨N, hN⟩ : ∃ N, timesV (Y ^^^ elV pc) (elV h) = N := ⟨_, rfl⟩
    have hte := fun V (hb : Below W.heap.size W V) => toElement_any V W.heap.size b (off + p) np np pc (hsW.below hb) hb.size hnp.1 hnp.2.1
    obtain ⟨eh, heh⟩ : ∃ x, hiE pc = x := ⟨_, rfl⟩
    obtain ⟨el, hel⟩ : ∃ x, loE pc = x := ⟨_, rfl⟩
    rw [heh, hel] at hte
    obtain ⟨yh, hyh⟩ : ∃ x, hiV Y = x := ⟨_, rfl⟩
    obtain ⟨yl, hyl⟩ : ∃ x, loV Y = x := ⟨_, rfl⟩
    rw [hyh, hyl] at hS
    have hprod : timesV ((yh ^^^ eh) ++ (yl ^^^ el)) (kh ++ kl) = N := by
      rw [app_xor, ← hyh, ← hyl, app_halves, ← heh, ← hel, ← elV_halves pc hpcl, HKE.out, hN]
    have htm := fun V => etimes_det V (yh ^^^ eh) (yl ^^^ el) kh kl
    rw [hprod] at htm
    obtain ⟨nh, hnh⟩ : ∃ x, hiV N = x := ⟨_, rfl⟩
    obtain ⟨nl, hnl⟩ : ∃ x, loV N = x := ⟨_, rfl⟩
    rw [hnh, hnl] at htm
    have HTEp := Lib.hid hte
    have HTM := Lib.hid htm
    have HNEW := Lib.hid (show ghN (elV h) bs (pre.length + 1) = N from hnew.trans hN)
    have HNN := Lib.hid (And.intro hnh hnl)
    have HOW := Lib.hid hO
    have HS6 := Lib.hid hS
    have HS5 := Lib.hid (HR58.out.only hO (show g5 ≠ g6 by omega))
    have HXL := Lib.hid (show 16 * pre.length < bs.length by omega)
    clear hte htm hnew hprod hN hnh hnl heh hel hyh hyl hY hsW hs8 hsw hpc hpce hpcl hO hS hp hxl hxi hxn hpl hbl2 hn0
    gi_wp2_with fail
    refine wpIn_region_chainM (β := Unit) rfl (by kernel_rfl) (fun _ => [(16, EV yh yl), (17, .slice (some ⟨b, off + p, none⟩) np np), (18, EV eh el), (19, EV (yh ^^^ eh) (yl ^^^ el)), (20, EV kh kl), (21, EV nh nl)]) (fun _ => []) [16, 17, 18, 19, 20, 21] [] (fun _ => rfl) (fun _ => rfl) (by kernel_rfl) (by kernel_rfl) (by kernel_rfl) (by kernel_rfl) (by first | rfl | simp) 6 1 rfl (by kernel_rfl) (by kernel_rfl)
      (fun L k _ V => (k = 0 → Below W.heap.size W V) ∧ (k = 1 → (∀ i, i < 6 → L.getD i false = true) ∧ OnlyV W V g6 ∧ RowV 61 V g6 [W64 nh, W64 nl])) ?hR () ?h0 ?hops ?htail ?hend
    case hR =>
      rintro L k u V q ⟨q1, q2⟩
      exact ⟨fun e => below_drewN (q1 e) q, fun e => ⟨(q2 e).1, (q2 e).2.1.drewN q, (q2 e).2.2⟩⟩
    case h0 => exact ⟨fun _ => Below.refl _ _, fun e => by omega⟩
    case hops =>
      rintro i o L k u V his hk hLi hLs ⟨q1, q2⟩ ho
      have hk0 : k = 0 := by
        have hk1 : k = 0 ∨ k = 1 := by omega
        rcases hk1 with h1 | h1
        · exact h1
        · have := (q2 h1).1 i his
          rw [hLi] at this
          cases this
      have hV := q1 hk0
      have hr6 := HS6.out.later hV
      have hr5 := HS5.out.later hV
      have hR' : ∀ V', Below W.heap.size W V' → ∀ L' : Array Bool, (k = 0 → Below W.heap.size W V') ∧ (k = 1 → (∀ i, i < 6 → L'.getD i false = true) ∧ OnlyV W V' g6 ∧ RowV 61 V' g6 [W64 nh, W64 nl]) := fun V' hb L' => ⟨fun _ => hb, fun e => by omega⟩
      clear q1 q2
      have hi2 : i = 0 ∨ i = 1 ∨ i = 2 ∨ i = 3 ∨ i = 4 ∨ i = 5 := by omega
      rcases hi2 with rfl | rfl | rfl | rfl | rfl | rfl
      all_goals
        have ho' := ho
        simp only [List.getElem?_toArray, List.getElem?_cons_zero, List.getElem?_cons_succ, Option.some.injEq] at ho'
        subst ho'
        refine ⟨(by intro c h; cases h), fun _ _ => trivial, ?_⟩
      · exact .inl ⟨V, exec_load_mid 61 _ rfl g6 0 rfl [W64 yh, W64 yl] _ hr6.range0 Try.underlying61 rfl Try.sizeE, hR' V hV _⟩
      · exact .inl ⟨V, by simp [execOp, evP, valP, Act.eval, List.lookup_cons], hR' V hV _⟩
      · refine .inr ⟨35, #[.slice (some ⟨b, off + p, none⟩) np np], ?_, (CallsIn.inRound l (callsIn_wide.2 (HTEp.out V hV))).mono ?_⟩
        · simp [execOp, evP, valP, Act.eval, List.lookup_cons, go_sem]
        · rintro e V' ⟨rfl, hb⟩
          exact ⟨rfl, hR' V' (hV.trans (hb.mono hV.size)) _⟩
      · refine .inr ⟨39, #[EV yh yl, EV eh el], ?_, (CallsIn.inRound l (callsIn_wide.2 (plus_any V yh yl eh el))).mono ?_⟩
        · simp [execOp, evP, valP, Act.eval, List.lookup_cons, go_sem]
        · rintro e V' ⟨rfl, hb⟩
          exact ⟨rfl, hR' V' (hV.trans (hb.mono hV.size)) _⟩
      · exact .inl ⟨V, exec_load_mid 61 _ rfl g5 0 rfl [W64 kh, W64 kl] _ hr5.range0 Try.underlying61 rfl Try.sizeE, hR' V hV _⟩
      · refine .inr ⟨36, #[EV (yh ^^^ eh) (yl ^^^ el), EV kh kl], ?_, (CallsIn.inRound l (callsIn_wide.2 (HTM.out V))).mono ?_⟩
        · simp [execOp, evP, valP, Act.eval, List.lookup_cons, go_sem]
        · rintro e V' ⟨rfl, hb⟩
          exact ⟨rfl, hR' V' (hV.trans (hb.mono hV.size)) _⟩
    case htail =>
      rintro L k u V o hk hLs ⟨q1, q2⟩ ho haf
      obtain rfl : k = 0 := by omega
      have hV := q1 rfl
      have hr6 := HS6.out.later hV
      have hth := hr6.thereAll 2 rfl
      have ho' := ho
      simp only [Nat.add_zero, List.getElem?_toArray, List.getElem?_cons_zero, List.getElem?_cons_succ, Option.some.injEq] at ho'
      subst ho'
      refine ⟨(by intro c h; cases h), fun _ _ => trivial, .inl ⟨(), V.setCells g6 0 [W64 nh, W64 nl], fun _ _ => rfl, ⟨fun e => by omega, fun _ => ⟨?_, ?_, ?_⟩⟩, .inl ⟨?_, rfl⟩⟩⟩
      · intro i hi
        rw [show 6 + 0 = 6 from rfl, getD_set_other _ (show (6 : Nat) ≠ i by omega)]
        have hi2 : i = 0 ∨ i = 1 ∨ i = 2 ∨ i = 3 ∨ i = 4 ∨ i = 5 := by omega
        rcases hi2 with rfl | rfl | rfl | rfl | rfl | rfl
        · exact haf ⟨0, .phase⟩ (by simp) rfl
        · exact haf ⟨1, .phase⟩ (by simp) rfl
        · exact haf ⟨2, .phase⟩ (by simp) rfl
        · exact haf ⟨3, .phase⟩ (by simp) rfl
        · exact haf ⟨4, .phase⟩ (by simp) rfl
        · exact haf ⟨5, .phase⟩ (by simp) rfl
      · exact OnlyV.sets _ _ _ (OnlyV.of_below hV g6)
      · exact hr6.setAll _ rfl
      · exact exec_store_mid 61 _ _ rfl g6 0 [W64 nh, W64 nl].toArray rfl rfl hth Try.sizeE (all_oneCell_toArray (onesE nh nl))
    case hend =>
      rintro u L V hL ⟨_, q2⟩
      obtain ⟨_, q3, q4⟩ := q2 rfl
      refine ⟨⟨q3.size, fun k o hk hh _ => (q3.block k (Array.getElem?_eq_some_iff.1 hh).1 (fun e => by injection e; omega)).trans hh⟩, KpE.only q3 HOW.out.size, HOW.out.trans q3, .inr ?_, ?_⟩
      · rw [List.length_append, List.length_singleton, Nat.add_sub_cancel]; exact HXL.out
      · rw [List.length_append, List.length_singleton, HNEW.out, HNN.out.1, HNN.out.2]; exact q4
  case done =>
    rintro D ys W hD hys ⟨hO, hlast, hS⟩ hK
    have hyl : ys.length = (bs.length + 15) / 16 := by have h2 := HBL.out; omega
    rw [hyl] at hS
    have he : ghN (elV h) bs ((bs.length + 15) / 16) = ghA (elV h) bs := rfl
    rw [he] at hS
    have HS6 := Lib.hid hS
    have HO := Lib.hid hO
    have HD := Lib.hid hD
    have hrs := hS.range0
    have heb := ebytes_any W (hiV (ghA (elV h) bs)) (loV (ghA (elV h) bs))
    rw [app_halves] at heb
    obtain ⟨gh, hgh⟩ : ∃ x, hiV (ghA (elV h) bs) = x := ⟨_, rfl⟩
    obtain ⟨gl, hgl⟩ : ∃ x, loV (ghA (elV h) bs) = x := ⟨_, rfl⟩
    rw [hgh, hgl] at heb hrs
    have HEB := Lib.hid heb
    clear he hS hO hys hD hlast hyl heb hgh hgl
    gi_wp2_with ((with_reducible show wpListIn _ _ _ _ _ (⟨some 22, _, _, _, _, _⟩ :: _) _ _); refine wpListIn_load_mid rfl 61 _ rfl g6 0 rfl [W64 gh, W64 gl] _ hrs Try.underlying61 rfl Try.sizeE ?_)
    refine ⟨trivial, (callsIn_wide.2 HEB.out).mono ?_⟩
    rintro e W2 ⟨g, rfl, hg, hr, hb⟩
    have HR := Lib.hid hr
    have HB2 := Lib.hid hb
    have HGG := Lib.hid hg
    have hK2 : W2.heap[D]? = some (.deferred (some [])) := (hb.block D (Array.getElem?_eq_some_iff.1 hK).1).trans hK
    clear hr hb hg hrs hK
    gi_wp2
    refine ⟨by simp, .inl ⟨_, _, rfl, run_takeDeferred hK2, ?_⟩⟩
    have hgr := grownBy_putObj' W2 D (.deferred none)
    have hnc : ∀ r, some D = some r → ∃ o : Obj, W2.heap[r]? = some o ∧ o.isCells = false := fun r e => by cases e; exact ⟨_, hK2, rfl⟩
    have h8 := HB8.out.size
    rw [HZ.out] at h8
    have h9 := HO.out.size
    have h10 := HGG.out
    refine ⟨.slice (some ⟨g, 0, none⟩) 16 16, by simp [results, Try.f16, go_sem], g, rfl, by rw [HZ.out]; omega, HR.out.kept hgr hnc, ?_⟩
    rw [HZ.out]
    have hzg : z ≤ g6 := by omega
    exact ((HB8.out.trans (HO.out.below hzg h8)).trans (HB2.out.mono (by omega))).grown hgr (by have := HB2.out.size; omega) (fun r e => by cases e; have := HD.out; omega)
  case stop =>
    intro D c pre W _ _ h
    exact h.elim
end Go.Proofs.Ytabhdkjepbkooaa
