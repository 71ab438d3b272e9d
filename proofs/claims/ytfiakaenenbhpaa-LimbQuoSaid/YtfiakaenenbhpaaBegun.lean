/- The law's begun: some numbers are told. -/
import Derived.Test.YtfiakaenenbhpaaLimbK
namespace Go.Proofs.Ytfiakaenenbhpaa
open Go.RowKit Go.Shelf
attribute [local go_sem] Oper.semAt_some

theorem nm_one (x : Nat) (h0 : x ≠ 0) (h : x < b64) : Nm b64 [x] x := ⟨fun y hy => by simp at hy; omega, fun y hy => by simp at hy; omega, by simp [V]⟩
theorem sl_new (w : World) (x : Nat) : Sl (w.alloc (.cells #[.int .u64 (x : Int)] 58)) (w.heap.size + 1) (some ⟨w.heap.size, 0, none⟩) 1 1 [x] := by
  have h := (heap_new_row w x).sl (by simp)
  rw [World.size_alloc] at h
  exact h

theorem eql_nilFunc (g : Nat) (w : World) : (binOp .eql 44 (.func (.func 50) #[] #[.pointer (some ⟨g, 0, none⟩)]) .nilFunc).run Try.prog w = .ok (.bool false) w := by kernel_rfl

set_option maxRecDepth 100000 in
set_option maxHeartbeats 2000000 in
theorem begun_any (w : World) : Calls Try.prog 8 #[] w fun e w' => RetV w (.bool true) e w' := by
  refine (callsIn_wide (n := 9)).1 ?_
  refine callsIn_of_wp_marks Try.func8 rfl trivial ?_ rfl
  simp only [Try.ntmps8, List.size_toArray, List.length_nil, Nat.reduceSub, Array.replicate_succ, Array.replicate_zero, List.push_toArray, List.append_toArray, List.nil_append, List.cons_append]
  have s1 := (sl_new w 7).below (((Below.refl _ (w.alloc (.cells #[.int .u64 ((7 : Nat) : Int)] 58)))).alloc (by simp) (.cells #[.int .u64 ((2 : Nat) : Int)] 58))
  have s2 := sl_new (w.alloc (.cells #[.int .u64 ((7 : Nat) : Int)] 58)) 2
  simp only [World.size_alloc] at s2
  have hB0 : Below w.heap.size w ((w.alloc (.cells #[.int .u64 ((7 : Nat) : Int)] 58)).alloc (.cells #[.int .u64 ((2 : Nat) : Int)] 58)) := ((Below.refl _ w).alloc (Nat.le_refl _) _).alloc (by simp) _
  have hq := quo_one _ _ _ 7 (s1.more (by simp)) _ _ 2 (s2.more (by simp)) (by decide) (by decide) (by decide) (by decide)
  have HQ := Lib.hid hq
  clear hq s1 s2
  gi_wp2_with (refine ⟨trivial, ?_⟩; gi_at_call 21; refine (callsIn_wide.2 HQ.out).mono ?_; rintro e w1 ⟨q, A1, n1, c1, r, A2, n2, c2, rfl, h1, h2, h3, h4, h5⟩; obtain rfl := nm_unique (by decide) h4 (nm_one 3 (by decide) (by decide)); obtain rfl := nm_unique (by decide) h5 (nm_one 1 (by decide) (by decide)))
  have hb1 : Below w.heap.size w w1 := hB0.trans (h3.mono (by simp; omega))
  have s3 := sl_new w1 256
  have hbw : Below w.heap.size w (w1.alloc (.cells #[.int .u64 ((256 : Nat) : Int)] 58)) := hb1.alloc hb1.size _
  have hby := bytes_yes _ _ (by simp) _ 1 1 [256] s3 (nm_one 256 (by decide) (by decide)).1 (by decide) 4 (by decide) (by decide)
  have hv256 : V b64 [256] = 256 := rfl
  rw [hv256] at hby
  have HBY := Lib.hid hby
  clear hby s3 hv256 HQ h4 h5
  gi_wp2_with (refine ⟨trivial, ?_⟩; gi_at_call 31; refine (callsIn_wide.2 HBY.out).mono ?_; rintro e w2 ⟨g4, rfl, hR4, hb2⟩)
  have hb3 : Below w.heap.size w w2 := hbw.trans (hb2.mono (by simp; have := hb1.size; omega))
  have h1' := h1.later ((((Below.refl w1.heap.size w1).alloc (Nat.le_refl _) (.cells #[.int .u64 ((256 : Nat) : Int)] 58))).trans (hb2.mono (by simp))) (Nat.le_refl _)
  have h2' := h2.later ((((Below.refl w1.heap.size w1).alloc (Nat.le_refl _) (.cells #[.int .u64 ((256 : Nat) : Int)] 58))).trans (hb2.mono (by simp))) (Nat.le_refl _)
  clear h1 h2 h3 hb2 hbw
  have s4 := sl_new w2 6
  have hea := each_any _ _ _ 1 1 [6] s4 (nm_one 6 (by decide) (by decide)).1 (by decide)
  have HEA := Lib.hid hea
  clear hea s4
  gi_wp2_with (refine ⟨trivial, ?_⟩; gi_at_call 27; refine (callsIn_wide.2 HEA.out).mono ?_; rintro e w3 ⟨g5, A5, n5, c5, ys5, rfl, hN5, hg5, hc5, hs5, hb5⟩; have hnf := eql_nilFunc g5)
  have hb6 : Below w.heap.size w w3 := hb3.trans ((((Below.refl w2.heap.size w2).alloc (Nat.le_refl _) (.cells #[.int .u64 ((6 : Nat) : Int)] 58)).trans (hb5.mono (by simp))).mono hb3.size)
  have hbx : Below w2.heap.size w2 w3 := ((Below.refl w2.heap.size w2).alloc (Nat.le_refl _) (.cells #[.int .u64 ((6 : Nat) : Int)] 58)).trans (hb5.mono (by simp))
  have h1'' := h1'.later hbx (Nat.le_refl _)
  have h2'' := h2'.later hbx (Nat.le_refl _)
  have hR4' := hR4.below hbx hR4.lt
  clear h1' h2' hR4 hbx hb5 hb3 hb1 hB0
  have hv6 : V b64 ys5 = 6 := hN5.2.2
  have hk3 : IsBits (V b64 ys5) 3 := by rw [hv6]; exact ⟨by decide, fun _ => by decide⟩
  have hes := each_stops 8 (by decide) g5 w3.heap.size n5 c5 A5 ys5 3 hk3 hN5.1 (by decide) (by rw [hs5.len]; exact Nat.le_trans (hN5.length_le (by decide) (k := 1) (by decide)) (by decide)) (w3.alloc (.cells #[.int .i64 0] 3)) (by simp; omega) (by simp)
    (((Below.refl w3.heap.size w3).alloc (Nat.le_refl _) _).cell (p := ⟨g5, 0, none⟩) hg5 |>.trans hc5) (hs5.below ((Below.refl w3.heap.size w3).alloc (Nat.le_refl _) _))
  rw [hv6] at hes
  have HES := Lib.hid hes
  clear hes hv6 hk3 hN5 hs5 hc5 HBY HEA hnf
  have bK := Boxed.new w3 3 (.int .i64 0)
  obtain ⟨W0, hW0⟩ : ∃ W0, w3.alloc (.cells #[.int .i64 0] 3) = W0 := ⟨_, rfl⟩
  have hsz : W0.heap.size = w3.heap.size + 1 := by rw [← hW0]; simp
  have hBW : Below w3.heap.size w3 W0 := by rw [← hW0]; exact (Below.refl _ _).alloc (Nat.le_refl _) _
  rw [hW0] at bK HES ⊢
  have HSZ := Lib.hid hsz
  clear hsz hW0
  refine wpIn_rangeFunc_ownG rfl (by omega) (gf := 50) (lb := #[.pointer (some ⟨g5, 0, none⟩)]) rfl trivial (enters_of Try.func50 (by kernel_rfl) rfl)
    HES.out KpB.trans (KpB.put (by rw [HSZ.out]; omega) (by rw [HSZ.out]; omega)) (Below.refl _ _) (fun _ => rfl)
    (fun pre W => (W.cell? ⟨w3.heap.size, 0, none⟩ = some (.int .i64 ((pre.length : Nat) : Int)) ∧ W.frozen? ⟨w3.heap.size, 0, none⟩ = false) ∧ Below w3.heap.size w3 W)
    (fun _ _ _ => False)
    (OwnFrom.and (Own.from (fun s A B row hs hg hr => ⟨cell_kept hs.1 hg hr, (frozen_kept hs.1 hg hr).trans hs.2⟩) _) (ownFrom_below (Nat.le_refl _) (by rw [HSZ.out]; omega)))
    (fun _ _ _ _ _ hs _ _ => hs)
    ⟨⟨bK.cell, bK.frozen⟩, hBW⟩
    (fun x => { tmps := #[.bool false, .slice A1 n1 c1, .slice A2 n2 c2, .bool true, .slice (some ⟨g4, 0, none⟩) 4 4, .bool true, .func (.func 50) #[] #[.pointer (some ⟨g5, 0, none⟩)], .pointer (some ⟨w3.heap.size, 0, none⟩), .tuple #[.slice A1 n1 c1, .slice A2 n2 c2, .bool true], .slice (some ⟨w.heap.size, 0, none⟩) 1 1, .slice (some ⟨w.heap.size + 1, 0, none⟩) 1 1, .tuple #[.slice A1 n1 c1, .slice A2 n2 c2, .bool true], .slice A1 n1 c1, .slice A2 n2 c2, .bool true, .tuple #[.slice (some ⟨g4, 0, none⟩) 4 4, .bool true], .slice (some ⟨w1.heap.size, 0, none⟩) 1 1, .tuple #[.slice (some ⟨g4, 0, none⟩) 4 4, .bool true], .slice (some ⟨g4, 0, none⟩) 4 4, .bool true, .slice (some ⟨w2.heap.size, 0, none⟩) 1 1, .func (.func 50) #[] #[.pointer (some ⟨g5, 0, none⟩)], .func (.func 50) #[] #[.pointer (some ⟨g5, 0, none⟩)], .bool false, .func (.func 50) #[] #[.pointer (some ⟨g5, 0, none⟩)], .int .i64 (x.1 : Int), .int .u64 ((6 / 2 ^ x.1 % 2 : Nat) : Int), undef, undef, undef, undef, undef, undef, undef, undef, undef, undef, undef, undef, undef, undef, undef, undef, undef, undef, undef, undef, undef, undef, undef, undef, undef, undef, undef, undef, undef, undef, undef, undef, undef, undef, undef, undef, undef, undef, undef, undef, undef, undef], defers := [] }) ?assign ?body ?done ?stop
  case assign =>
    intro l x W K hK
    gi_wp2
    exact hK
  case body =>
    rintro l pre x W ⟨⟨hc, hf⟩, hB⟩ hpl
    have hpi : ((pre.length : Nat) : Int) < 3 := by omega
    obtain ⟨pl, hpl2⟩ : ∃ pl, pre.length = pl := ⟨_, rfl⟩
    rw [hpl2] at hc hpi
    have HP := Lib.hid hpl2
    clear hpl2 hpl
    gi_wp2
    refine ⟨(KeepsOthers.setCell _ _ _).from _, ⟨(Below.refl w3.heap.size W).setCell (p := ⟨w3.heap.size, 0, none⟩) (Nat.le_refl _) _, ?_⟩, ⟨?_, by rw [World.frozen?_setCell]; exact hf⟩, hB.setCell (p := ⟨w3.heap.size, 0, none⟩) (Nat.le_refl _) _⟩
    · exact Below.heap_setCell _ _ _ _ (by show g5 ≠ w3.heap.size; omega)
    · rw [List.length_append, HP.out]
      exact World.cell?_setCell_same' _ _ _ (by rw [hc]; rfl)
  case done =>
    rintro D ds W hD hds ⟨⟨hc, hf⟩, hB⟩ hK
    have hl : ds.length = 3 := by have := congrArg List.length hds; simpa [downL] using this
    rw [hl] at hc
    clear hds hl
    have q1 := h1''.later hB (Nat.le_refl _)
    have q2 := h2''.later hB (Nat.le_refl _)
    have q4 := hR4'.below hB hR4'.lt
    have hl1 := h1''.len
    have hl2 := h2''.len
    simp only [List.length_singleton] at hl1 hl2
    subst hl1 hl2
    obtain ⟨bq, oq, xq, rfl, hbq, hxq, hcq⟩ := q1.at_ (k := 0) (by decide)
    simp at hxq
    subst hxq
    have hcq' : W.cell? ⟨bq, oq, none⟩ = some (.int .u64 3) := by simpa using hcq
    have hconv : (convert 51 9 (.slice (some ⟨g4, 0, none⟩) 4 4)).run Try.prog W = .ok (.string ⟨#[0, 0, 1, 0]⟩) W := by
      refine run_convert_bytes_back W 51 9 5 ⟨g4, 0, none⟩ 4 [0, 0, 1, 0] Try.underlying51 Try.underlying5 Try.underlying9 (fun j hj => ?_)
      rw [Addr.add_lit]
      have hbe : be 4 256 = [0, 0, 1, 0] := by decide
      rw [hbe] at q4
      match j, hj with
      | 0, _ => exact q4.at_ rfl
      | 1, _ => exact q4.at_ rfl
      | 2, _ => exact q4.at_ rfl
      | 3, _ => exact q4.at_ rfl
    have hcmp := lcmp_any W _ _ _ [3] q1 _ _ _ [1] q2 (nm_one 3 (by decide) (by decide)).1 (nm_one 1 (by decide) (by decide)).1
    have hcv : ncmp (V b64 [3]) (V b64 [1]) = 1 := by decide
    rw [hcv] at hcmp
    have HCMP := Lib.hid hcmp
    clear hcmp hcv q4 q1 q2 hcq hR4' h1'' h2''
    gi_wp2_with (refine ⟨trivial, ?_⟩; gi_at_call 19; refine (callsIn_wide.2 HCMP.out).mono ?_; rintro e W2 ⟨rfl, hbc⟩)
    have s8 := bits_any _ _ _ 1 1 [8] (sl_new W2 8) (nm_one 8 (by decide) (by decide)).1 (by decide)
    have HS8 := Lib.hid s8
    clear s8
    have hk8 : ∀ k, IsBits (V b64 [8]) k → k = 4 := fun k hk => hk.unique ⟨by decide, fun _ => by decide⟩
    have HK8 := Lib.hid hk8
    clear hk8
    gi_wp2_with (refine ⟨trivial, ?_⟩; gi_at_call 29; refine (callsIn_wide.2 HS8.out).mono ?_; rintro e W3 ⟨k, rfl, hk, rfl⟩; obtain rfl := HK8.out k hk; clear hk)
    have hDlt : D < W.heap.size := (Array.getElem?_eq_some_iff.1 hK).1
    have hK2 : W2.heap[D]? = some (.deferred (some [])) := (hbc.block D hDlt).trans hK
    have hK3 : (W2.alloc (.cells #[.int .u64 8] 58)).heap[D]? = some (.deferred (some [])) := (Below.heap_alloc W2 _ D (Array.getElem?_eq_some_iff.1 hK2).1).trans hK2
    have hw3 : w.heap.size ≤ w3.heap.size := hb6.size
    have hWs : w.heap.size ≤ W.heap.size := Nat.le_trans hw3 hB.size
    refine ⟨by simp, .inl ⟨_, _, rfl, run_takeDeferred hK3, ?_⟩⟩
    refine ⟨_, results_tmp rfl _ _ _, rfl, ?_⟩
    exact (((hb6.trans (hB.mono hw3)).trans (hbc.mono hWs)).alloc (Nat.le_trans hWs hbc.size) _).trans (belowK_b (w := W0) (by rw [HSZ.out]; omega) _ D _ _ hD hK3 rfl rfl)
  case stop =>
    rintro D c pre W _ _ h _
    exact h.elim
end Go.Proofs.Ytfiakaenenbhpaa
