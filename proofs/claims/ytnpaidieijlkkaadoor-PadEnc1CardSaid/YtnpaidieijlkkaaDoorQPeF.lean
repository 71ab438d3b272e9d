/- pad: Enc1. -/
import Derived.Test.YtnpaidieijlkkaaDoorQPeE
set_option linter.unusedVariables false
set_option linter.unusedSimpArgs false
namespace Go.Proofs.YtnpaidieijlkkaaDoor
open Go.RowKit Go.Shelf

theorem midF_full (f msg : List (BitVec 8)) (r : Nat) (h : f.length = r) : midF ((frameW 2 (List.replicate r 0) msg).map W8) f = (frameW 2 f msg).map W8 := by
  subst h
  simp only [midF, frameW, List.map_cons, List.map_append, List.take_succ_cons, List.take_zero, List.drop_succ_cons, List.cons_append, List.nil_append]
  congr 2
  rw [show 2 + f.length = f.length + 2 by omega]
  simp only [List.drop_succ_cons]
  rw [List.drop_left' (by simp)]
abbrev gvF (bb cc : Nat) : Value := .func (.func 48) #[] #[.pointer (some ⟨bb, 0, none⟩), .pointer (some ⟨cc, 0, none⟩)]
set_option maxRecDepth 100000 in
theorem gv_notNil (bb cc : Nat) (w : World) : (binOp .eql 30 (.func (.func 48) #[] #[.pointer (some ⟨bb, 0, none⟩), .pointer (some ⟨cc, 0, none⟩)]) .nilFunc).run Tryd.prog w = .ok (.bool false) w := rfl
set_option maxRecDepth 100000 in
theorem nil_isNil (w : World) : (binOp .eql 30 .nilFunc .nilFunc).run Tryd.prog w = .ok (.bool true) w := rfl
set_option maxRecDepth 100000 in
theorem penc1_nil (w : World) (n : Int) (v : Value) :
    Calls Tryd.prog 22 #[.int .i64 n, v, .nilFunc] w fun e w' => e = .returned (.tuple #[.slice none 0 0, .int .i64 7]) ∧ w = w' := by
  have hn := nil_isNil
  go_enter Tryd.func22, Tryd.ntmps22
  go_wp2
  go_ret2
  exact ⟨rfl, rfl⟩
set_option maxRecDepth 100000 in
theorem penc1_no (w : World) (n : Int) (A : Option Addr) (m c : Nat) (bb cc : Nat) (r : Int) (hr : r ≠ 0) (hf : Calls Tryd.prog 46 #[.int .i64 n, W8 2, .slice A m c] w fun e w' => e = .returned (.tuple #[.slice none 0 0, .slice none 0 0, .int .i64 r]) ∧ w = w') :
    Calls Tryd.prog 22 #[.int .i64 n, .slice A m c, gvF bb cc] w fun e w' => e = .returned (.tuple #[.slice none 0 0, .int .i64 r]) ∧ w = w' := by
  have HF := Lib.hid hf
  have hn := gv_notNil bb cc
  have kr : (r != 0) = true := by simpa using hr
  clear hf
  go_enter Tryd.func22, Tryd.ntmps22
  go_wp2_with fail
  refine HF.out.mono ?_
  rintro e w' ⟨rfl, rfl⟩
  go_wp2
  go_ret2
  exact ⟨rfl, rfl⟩
set_option maxRecDepth 100000 in
set_option maxHeartbeats 2000000 in
theorem penc1_ok (w : World) (B q bb cc ab : Nat) (hbq : bb ≠ q) (hcq : cc ≠ q) (A2 : Option Addr) (n2 c2 : Nat) (rb : List (BitVec 8)) (hab : rb ≠ [] → ∀ b off s, A2 = some ⟨b, off, s⟩ → b = ab) (haq : ab ≠ q) (habx : ab < w.heap.size)
    (hsl : SlV w w.heap.size A2 n2 c2 (rb.map W8)) (hn2 : n2 ≤ 1000000) (hq : BxE q (.int .i64 0) w) (hb : BxE bb (.slice A2 n2 c2) w) (hc : BxE cc (.pointer (some ⟨q, 0, none⟩)) w) (hBq : B ≤ q)
    (N : Nat) (hN2 : N ≤ 65536) (A : Option Addr) (m c : Nat) (msg : List (BitVec 8)) (hs : SlV w w.heap.size A m c (msg.map W8)) (r : Nat) (hr : m + 3 + r = N) (hr8 : 8 ≤ r) (K : Nat) (hK : FillEnd rb r K) :
    Calls Tryd.prog 22 #[.int .i64 (N : Int), .slice A m c, gvF bb cc] w fun e w' => ∃ v, e = .returned (.tuple #[v, .int .i64 (fillR rb r K)]) ∧ FreshV w' w.heap.size v (fillV rb msg r K) ∧ BxE q (.int .i64 (K : Int)) w' ∧ Below B w w' := by
  have hl : msg.length = m := by simpa using hs.len.symm
  have hf := pframe_ok w N hN2 2 _ A m c msg hs (Nat.le_refl _) (by omega)
  obtain ⟨g, hg⟩ : ∃ g, w.heap.size = g := ⟨_, rfl⟩
  have hqx := hq.2.2
  have hbx := hb.2.2
  have hcx := hc.2.2
  have hrN : N - m - 3 = r := by omega
  have hsl2 := hsl
  rw [hg] at hf hqx hbx hcx habx
  rw [hrN] at hf
  have hn := gv_notNil bb cc
  have hyl : ((frameW 2 (List.replicate r (0 : BitVec 8)) msg).map W8).length = N := by rw [List.length_map, frameW_length, List.length_replicate, hl]; omega
  have HF := Lib.hid hf
  have HX := Lib.hid (⟨hsl, hq, hb, hc⟩ : SlV w w.heap.size A2 n2 c2 (rb.map W8) ∧ BxE q (.int .i64 0) w ∧ BxE bb (.slice A2 n2 c2) w ∧ BxE cc (.pointer (some ⟨q, 0, none⟩)) w)
  have HK := Lib.hid hK
  have HG := Lib.hid hg
  have HY := Lib.hid hyl
  obtain ⟨RR, hRR⟩ : ∃ x, fillR rb r K = x := ⟨_, rfl⟩
  obtain ⟨VV, hVV⟩ : ∃ x, fillV rb msg r K = x := ⟨_, rfl⟩
  rw [hRR, hVV]
  have HV := Lib.hid (⟨hRR, hVV⟩ : fillR rb r K = RR ∧ fillV rb msg r K = VV)
  clear hf hsl hsl2 hq hb hc hK hyl hs hl hRR hVV
  go_enter Tryd.func22, Tryd.ntmps22
  go_wp2_with fail
  refine HF.out.mono ?_
  rintro e w1 ⟨rfl, hrow, hb1⟩
  have hb1' : Below w.heap.size w w1 := by rw [HG.out]; exact hb1
  have hgl := hrow.lt
  have hfi := pfill_in w1 B g q bb cc ab hbq hcq A2 n2 c2 rb hab haq (by omega) ((HX.out.1.below hb1').more hb1'.size) hn2 (HX.out.2.1.later hb1') (HX.out.2.2.1.later hb1') (HX.out.2.2.2.later hb1') r (N - 2) (by omega) (by omega) _ hrow (by rw [HY.out]; omega) (by omega) K HK.out (by omega) (by omega) (by omega) (by omega) (by omega) hBq
  have hfi' := callsIn_wide.1 hfi
  have HFI := Lib.hid hfi'
  have HB1 := Lib.hid (hb1'.mono (show B ≤ w.heap.size by rw [HG.out]; omega))
  clear hfi hfi' hrow hb1 hb1'
  go_wp2_with fail
  refine HFI.out.mono ?_
  rintro e w2 ⟨rfl, hr2, hq2, hb2⟩
  have HQ := Lib.hid hq2
  have HB2 := Lib.hid (HB1.out.trans hb2)
  have HR2 := Lib.hid hr2
  clear hr2 hq2 hb2
  by_cases hfull : (nzL (rb.take K)).length = r
  · obtain rfl : RR = 0 := by rw [← HV.out.1, fillR, if_pos hfull]
    have kf : (((nzL (rb.take K)).length : Int) == (r : Int)) = true := by simp [hfull]
    have hfr : FreshV w2 g (.slice (some ⟨g, 0, none⟩) N N) VV := by
      rw [← HV.out.2, fillV, if_pos hfull]
      have h := HR2.out
      rw [midF_full _ _ _ hfull] at h
      refine FreshV.row_ h (Nat.le_refl _) ?_ (by omega)
      rw [frameW_length, hfull]
      have hy := HY.out
      rw [List.length_map, frameW_length, List.length_replicate] at hy
      omega
    have HFR := Lib.hid hfr
    clear hfr hfull
    go_wp2
    go_ret2
    exact ⟨_, rfl, by rw [HG.out]; exact HFR.out, HQ.out, HB2.out⟩
  · obtain rfl : RR = 5 := by rw [← HV.out.1, fillR, if_neg hfull]
    obtain rfl : VV = [] := by rw [← HV.out.2, fillV, if_neg hfull]
    have kf : (((nzL (rb.take K)).length : Int) == (r : Int)) = false := by simp; omega
    clear hfull
    go_wp2
    go_ret2
    exact ⟨_, rfl, FreshV.nil_ _ _, HQ.out, HB2.out⟩
end Go.Proofs.YtnpaidieijlkkaaDoor
