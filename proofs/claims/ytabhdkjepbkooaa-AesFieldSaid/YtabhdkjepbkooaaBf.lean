/- slices.Chunk of bytes: its iterator. -/
import Derived.Test.YtabhdkjepbkooaaBe
set_option linter.unusedVariables false
set_option linter.unusedSimpArgs false
namespace Go.Proofs.Ytabhdkjepbkooaa
open Go.RowKit
attribute [local go_sem] Oper.semAt_some

set_option maxRecDepth 100000 in
set_option maxHeartbeats 4000000 in
theorem chunk1_in (nn : Nat) (hn : 1 ≤ nn) (w : World) (ex g1 g2 b off n c k : Nat) (A : Option Addr) (hA : 0 < n → A = some ⟨b, off, none⟩) (bs : List (BitVec 8)) (hbl : bs.length = n) (h1 : RowV 22 w g1 [.slice A n c]) (h2 : RowV 3 w g2 [.int .i64 (k : Int)]) (hk : 1 ≤ k) (hk9 : k ≤ 65536) (hnc : n ≤ c) (hcm : c ≤ 9223372036854775807) (hn9 : n ≤ 17592186044416) (hx1 : g1 ≠ ex) (hx2 : g2 ≠ ex) :
    SeqP Fence.wide nn Try.prog 46 #[.pointer (some ⟨g1, 0, none⟩), .pointer (some ⟨g2, 0, none⟩)] encCk (CkR bs k b off) (KpE ex w.heap.size) (fun ys => n ≤ k * ys.length) (fun _ => True) n w := by
  intro l J Jx W hW hJ hJx hY h0
  obtain ⟨top, htop⟩ : ∃ t, w.heap.size = t := ⟨_, rfl⟩
  have hl1 := h1.lt
  have hl2 := h2.lt
  rw [htop] at hW hY hl1 hl2
  have h1W := h1.below hW hl1
  have h2W := h2.below hW hl2
  have HK0 := Lib.hid (show KpE ex top W W from KpE.refl _ _ _)
  have HY := Lib.hid hY
  have HBL := Lib.hid hbl
  have HR1 := Lib.hid h1W
  have HR2 := Lib.hid h2W
  have kk1 : (1 : Int) ≤ k := by omega
  have kk2 : (k : Int) ≤ 65536 := by omega
  have kn1 : (n : Int) ≤ 17592186044416 := by omega
  have knc : (n : Int) ≤ c := by omega
  clear hY h1 h2 hW h1W h2W htop hbl
  refine callsIn_of_wp Try.func46 rfl trivial ?_ rfl
  simp only [Try.ntmps46, List.size_toArray, List.length_cons, List.length_nil, Nat.reduceAdd, Nat.reduceSub, Array.replicate_succ, Array.replicate_zero, List.push_toArray, List.append_toArray, List.nil_append, List.cons_append]
  gi_wp2
  gi_loopw [4] (fun i wr => ∃ (p : Nat) (pre : List CkX), i = .int .i64 (p : Int) ∧ k * pre.length = p ∧ p < n + k ∧ Hid (KpE ex top W wr) ∧ J pre wr) (fun i _ => n + k - (intOf i).toNat)
  case atStart => exact ⟨0, [], rfl, by simp, by omega, HK0, h0⟩
  case round =>
    obtain ⟨p, pre, rfl, hpp, hpn, HK, hJs⟩ := hrel
    have HPP := Lib.hid hpp
    clear hpp
    have hpI : (p : Int) < 17592186109952 := by omega
    have c1 : wr.cell? ⟨g1, 0, none⟩ = some (.slice A n c) := (HR1.out.keptE HK.out hx1 hl1).at_ rfl
    have c2 : wr.cell? ⟨g2, 0, none⟩ = some (.int .i64 (k : Int)) := (HR2.out.keptE HK.out hx2 hl2).at_ rfl
    by_cases hpe : n ≤ p
    · have hpe2 : ¬ (p : Int) < n := by omega
      gi_wp2
      go_end0
      exact ⟨⟨_, rfl⟩, .inl ⟨pre, by rw [HPP.out]; exact hpe, hJs⟩⟩
    · obtain rfl := hA (by omega)
      have hki : (p : Int) < n := by omega
      obtain ⟨m, hm⟩ : ∃ m, min k (n - p) = m := ⟨_, rfl⟩
      have hmI : min (k : Int) ((n - p : Nat) : Int) = (m : Int) := by omega
      have hmI2 : min (k : Int) ((n : Int) - (p : Int)) = (m : Int) := by omega
      have hm1 : 1 ≤ m ∧ m ≤ k ∧ p + m ≤ n := by omega
      gi_wp2_with fail
      refine wpIn_wide.2 ?_
      go_quiet (fail)
      have hmE : (if n - p < k then ((n - p : Nat) : Int) else (k : Int)) = (m : Int) := by
        by_cases h : n - p < k
        · rw [if_pos h]; omega
        · rw [if_neg h]; omega
      rw [hmE]
      generalize hWd : World.drewN wr _ = wd
      have c1d : wd.cell? ⟨g1, 0, none⟩ = some (.slice (some ⟨b, off, none⟩) n c) := by rw [← hWd]; exact c1
      have c2d : wd.cell? ⟨g2, 0, none⟩ = some (.int .i64 (k : Int)) := by rw [← hWd]; exact c2
      have hbwd : Below wr.heap.size wr wd := by rw [← hWd]; exact below_drewN (Below.refl _ _) _
      have hJ1 := hJ pre wr wd none hJs (grownNo hbwd) (fun r e => by cases e)
      have HX := Lib.hid (show CkR bs k b off pre ⟨pre.length, some ⟨b, off + p, none⟩, m, m⟩ wd from ⟨rfl, by rw [HPP.out, HBL.out]; omega, by rw [HPP.out], by rw [HPP.out, HBL.out]; exact hm.symm, rfl⟩)
      have hpl : pre.length < n := by
        have h2 := HPP.out
        have h3 : 1 * pre.length ≤ k * pre.length := Nat.mul_le_mul_right _ hk
        omega
      obtain ⟨fn, tmps, assign, body, hy, hRd⟩ := HY.out pre ⟨pre.length, some ⟨b, off + p, none⟩, m, m⟩ wd hJ1 HX.out hpl
      dsimp only [encCk] at hy
      have HK1 := Lib.hid (show KpE ex top W wd by rw [← hWd]; exact HK.out.trans ⟨Nat.le_refl _, fun _ _ _ => rfl⟩)
      have ipm : (p : Int) + (m : Int) ≤ n := by omega
      have ipc : (p : Int) + (m : Int) ≤ c := by omega
      have im1 : (1 : Int) ≤ m := by omega
      have HM := Lib.hid (And.intro hm hm1)
      clear hm hm1 hmE hmI hmI2 hbwd hJ1 hWd c1 c2 hpl
      gi_wp2
      refine hRd.mono ?_
      rintro e W3 (⟨rfl, hJ3, hKp⟩ | ⟨rfl, hJx3⟩)
      · have HK3 := Lib.hid (HK1.out.trans hKp)
        have c2e : W3.cell? ⟨g2, 0, none⟩ = some (.int .i64 (k : Int)) := (HR2.out.keptE HK3.out hx2 hl2).at_ rfl
        clear hKp c1d c2d
        gi_wp2
        go_roundw
        case rel => exact ⟨p + k, pre ++ [⟨pre.length, some ⟨b, off + p, none⟩, m, m⟩], by go_num, by rw [List.length_append, List.length_singleton, Nat.mul_add, HPP.out, Nat.mul_one], by omega, HK3, hJ3⟩
        case measure => simp [intOf]; omega
      · gi_wp2
        refine bodyPost_ret (results_none rfl _ _ _) rfl ?_
        exact ⟨⟨_, rfl⟩, .inr ⟨_, trivial, hJx3⟩⟩
end Go.Proofs.Ytabhdkjepbkooaa
