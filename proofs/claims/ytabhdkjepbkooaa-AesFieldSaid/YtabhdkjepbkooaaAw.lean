/- aescore: slices.Backward over the round keys. -/
import Derived.Test.YtabhdkjepbkooaaAv
import Derived.Test.YtabhdkjepbkooaaKs
set_option linter.unusedVariables false
set_option linter.unusedSimpArgs false
namespace Go.Proofs.Ytabhdkjepbkooaa
open Go.RowKit
attribute [local go_sem] Oper.semAt_some

set_option maxRecDepth 100000 in
set_option maxHeartbeats 1600000 in
theorem back_any (w : World) (gk C : Nat) : Calls Try.prog 28 #[.slice (some ⟨gk, 0, none⟩) C C] w fun e w' =>
    ∃ g1, e = .returned (.func (.func 43) #[] #[.pointer (some ⟨g1, 0, none⟩)]) ∧ w.heap.size ≤ g1 ∧ RowV 39 w' g1 [.slice (some ⟨gk, 0, none⟩) C C] ∧ Below w.heap.size w w' := by
  obtain ⟨W1, e1, r1, b1, z1⟩ := newV w 39 [.slice (some ⟨gk, 0, none⟩) C C] #[.slice (some ⟨gk, 0, none⟩) C C] rfl
  obtain ⟨g1, hg1⟩ : ∃ x, w.heap.size = x := ⟨_, rfl⟩
  rw [hg1] at r1 b1
  have HH := Lib.hid (And.intro r1 b1)
  have HG := Lib.hid hg1
  clear r1 b1 z1
  go_enter Try.func28, Try.ntmps28
  go_wp2
  go_ret
  refine ⟨g1, rfl, by rw [HG.out]; exact Nat.le_refl _, ?_, ?_⟩
  · exact HH.out.1
  · rw [HG.out]; exact HH.out.2
/-- what Backward hands out -/
structure BkX where
  i : Nat
  k : List (BitVec 8)
abbrev encB : BkX → Array Value := fun x => #[.int .i64 (x.i : Int), .agg (x.k.map W8).toArray]
def BkR (bs : List (BitVec 8)) (C : Nat) (pre : List BkX) (x : BkX) (_ : World) : Prop := x.i + pre.length + 1 = C ∧ x.k = keyAt bs x.i
set_option maxRecDepth 100000 in
set_option maxHeartbeats 4000000 in
theorem back1_in (nn : Nat) (hn : 1 ≤ nn) (w : World) (ex g1 gk C : Nat) (bs : List (BitVec 8)) (h1 : RowV 39 w g1 [.slice (some ⟨gk, 0, none⟩) C C]) (h2 : RowV 49 w gk (bs.map W8)) (hbl : bs.length = 16 * C) (hx1 : g1 ≠ ex) (hx2 : gk ≠ ex) (hC : C ≤ 15) :
    SeqP Fence.wide nn Try.prog 43 #[.pointer (some ⟨g1, 0, none⟩)] encB (BkR bs C) (KpE ex w.heap.size) (fun ys => ys.length = C) (fun _ => True) C w := by
  intro l J Jx W hW hJ hJx hY h0
  obtain ⟨top, htop⟩ : ∃ t, w.heap.size = t := ⟨_, rfl⟩
  have hl1 := h1.lt
  have hl2 := h2.lt
  rw [htop] at hW hY hl1 hl2
  have c1 : W.cell? ⟨g1, 0, none⟩ = some (.slice (some ⟨gk, 0, none⟩) C C) := (h1.below hW hl1).at_ rfl
  have h1W := h1.below hW hl1
  have h2W := h2.below hW hl2
  have HK0 := Lib.hid (show KpE ex top W W from KpE.refl _ _ _)
  have HY := Lib.hid hY
  have HBL := Lib.hid hbl
  have HR1 := Lib.hid h1W
  have HR2 := Lib.hid h2W
  have kC : (C : Int) ≤ 15 := by omega
  clear hY h1 h2 hW h1W h2W htop hbl
  refine callsIn_of_wp Try.func43 rfl trivial ?_ rfl
  simp only [Try.ntmps43, List.size_toArray, List.length_cons, List.length_nil, Nat.reduceAdd, Nat.reduceSub, Array.replicate_succ, Array.replicate_zero, List.push_toArray, List.append_toArray, List.nil_append, List.cons_append]
  gi_wp2
  clear c1
  gi_loopw [3] (fun i wr => ∃ (k : Nat) (pre : List BkX), k ≤ C ∧ i = .int .i64 ((k : Int) - 1) ∧ pre.length + k = C ∧ Hid (KpE ex top W wr) ∧ J pre wr) (fun i _ => (intOf i + 1).toNat)
  case atStart => exact ⟨C, [], Nat.le_refl _, by go_num, by simp, HK0, h0⟩
  case round =>
    obtain ⟨k, pre, hk, rfl, hpl, HK, hJs⟩ := hrel
    have HPL := Lib.hid hpl
    clear hpl
    by_cases hkC : k = 0
    · subst hkC
      gi_wp2
      go_end0
      exact ⟨⟨_, rfl⟩, .inl ⟨pre, by have := HPL.out; omega, hJs⟩⟩
    · obtain ⟨m, hm⟩ : ∃ m, k - 1 = m := ⟨_, rfl⟩
      have hmI : (k : Int) - 1 = (m : Int) := by omega
      have hki : (m : Int) < C := by omega
      rw [hmI]
      obtain ⟨p, hp⟩ : ∃ p, m * 16 = p := ⟨_, rfl⟩
      obtain ⟨ck, hck⟩ : ∃ l, keyAt bs m = l := ⟨_, rfl⟩
      have hckl : ck.length = 16 := by rw [← hck]; unfold keyAt; have := HBL.out; simp; omega
      have hrk := HR2.out.keptE HK.out hx2 hl2
      have c1 : wr.cell? ⟨g1, 0, none⟩ = some (.slice (some ⟨gk, 0, none⟩) C C) := (HR1.out.keptE HK.out hx1 hl1).at_ rfl
      have hrng : wr.rangeAt gk p (ck.map W8) := by
        have h := hrk.range p 16
        rw [← List.map_drop, ← List.map_take] at h
        rw [← hck]
        unfold keyAt
        rwa [Nat.mul_comm 16 m, hp]
      have hckm : (ck.map W8).length = 16 := by rw [List.length_map]; exact hckl
      have HX := Lib.hid (show BkR bs C pre ⟨m, ck⟩ wr from ⟨by have := HPL.out; show m + pre.length + 1 = C; omega, hck.symm⟩)
      obtain ⟨fn, tmps, assign, body, hy, hRd⟩ := HY.out pre ⟨m, ck⟩ wr hJs HX.out (by have := HPL.out; omega)
      dsimp only [encB] at hy
      have HP := Lib.hid hp
      have HM := Lib.hid hm
      clear hck hrk hm hmI
      gi_wp2_with (((with_reducible show wpListIn _ _ _ _ _ (⟨some 16, _, _, _, _, _⟩ :: _) _ _); refine wpListIn_load_mid rfl 49 _ rfl gk p rfl (ck.map W8) _ hrng Try.underlying49 rfl (Try.arr16.trans (by rw [hckm])) ?_))
      refine hRd.mono ?_
      rintro e W3 (⟨rfl, hJ3, hKp⟩ | ⟨rfl, hJx3⟩)
      · have HK3 := Lib.hid (HK.out.trans hKp)
        clear hKp
        gi_wp2
        go_roundw
        case rel => exact ⟨m, pre ++ [⟨m, ck⟩], by omega, rfl, by have := HPL.out; have := HM.out; simp; omega, HK3, hJ3⟩
        case measure => have := HM.out; show ((m : Int) - 1 + 1).toNat < ((m : Int) + 1).toNat; omega
      · gi_wp2
        refine bodyPost_ret (results_none rfl _ _ _) rfl ?_
        exact ⟨⟨_, rfl⟩, .inr ⟨_, trivial, hJx3⟩⟩
end Go.Proofs.Ytabhdkjepbkooaa
