/- limb.Cmp. -/
import Derived.Test.YtfiakaenenbhpaaIter
namespace Go.Proofs.Ytfiakaenenbhpaa
open Go.RowKit Go.Shelf

set_option maxHeartbeats 400000 in
theorem cmpU_any (x y : Nat) (w : World) :
    Calls Try.prog 44 #[.int .u64 x, .int .u64 y] w fun e w' => e = .returned (.int .i64 (ncmp x y)) ∧ w = w' := by
  have hxx : ((x : Int) != x) = false := by simp
  have hyy : ((y : Int) != y) = false := by simp
  rcases Nat.lt_trichotomy x y with h | h | h
  · rw [ncmp_lt h]
    have h1 : (x : Int) < y := by omega
    go_enter Try.func44, Try.ntmps44
    go_wp2
    go_ret
    exact ⟨rfl, rfl⟩
  · subst h
    rw [ncmp_eq]
    go_enter Try.func44, Try.ntmps44
    go_wp2
    go_ret
    exact ⟨rfl, rfl⟩
  · rw [ncmp_gt h]
    have h1 : (y : Int) < x := by omega
    go_enter Try.func44, Try.ntmps44
    go_wp2
    go_ret
    exact ⟨rfl, rfl⟩

theorem cmpI_any (x y : Nat) (w : World) :
    Calls Try.prog 42 #[.int .i64 (x : Int), .int .i64 (y : Int)] w fun e w' => e = .returned (.int .i64 (ncmp x y)) ∧ w = w' := by
  refine (Try.cmp_Compare_int x y w).mono fun e w' ⟨he, hw⟩ => ⟨?_, hw.symm⟩
  rw [he]
  unfold Lib.compareInt ncmp
  congr 2
  repeat' split
  all_goals first | rfl | omega

attribute [local go_sem] Oper.semAt_some

theorem sl_trim_of {w w' : World} {B m n c : Nat} {A : Option Addr} {xs : List Nat} (h : Sl w B A n c xs) (h' : Sl w' B A m c (trimmed xs)) : Sl w B A m c (trimmed xs) := by
  have e : m = trimL xs n := by rw [h'.len, trimmed_length, h.len]
  subst e
  exact sl_trim h

theorem mem_down {n k i : Nat} {l : List (Ix n)} (h : l.map (·.1) = downL n k) (h1 : n ≤ i + k) (h2 : i < n) : ∃ x ∈ l, x.1 = i := by
  have hm : i ∈ l.map (·.1) := by
    rw [h]
    exact List.mem_map.2 ⟨n - 1 - i, List.mem_range.2 (by omega), by omega⟩
  obtain ⟨x, hx, e⟩ := List.mem_map.1 hm
  exact ⟨x, hx, e⟩

theorem cmp_at {B : Nat} {xs ys : List Nat} {m : Nat} (hd : Dg B xs) (hd2 : Dg B ys) (hl : xs.length = ys.length) (hm : m < xs.length) (hne : xs[m]?.getD 0 ≠ ys[m]?.getD 0) (he : ∀ i, m < i → i < xs.length → xs[i]? = ys[i]?) :
    ncmp (V B xs) (V B ys) = ncmp (xs[m]?.getD 0) (ys[m]?.getD 0) := by
  obtain ⟨x, hx⟩ := get_lt hm
  obtain ⟨y, hy⟩ := get_lt (zs := ys) (k := m) (by omega)
  have hdr : xs.drop (m + 1) = ys.drop (m + 1) := by
    apply List.ext_getElem?
    intro j
    rw [List.getElem?_drop, List.getElem?_drop]
    rcases Nat.lt_or_ge (m + 1 + j) xs.length with h | h
    · exact he _ (by omega) h
    · rw [List.getElem?_eq_none h, List.getElem?_eq_none (by omega)]
  rw [hx, hy] at hne ⊢
  simp only [Option.getD_some] at hne ⊢
  rcases Nat.lt_or_gt_of_ne hne with h | h
  · rw [ncmp_lt h, ncmp_lt (cmp_lt hd hl hx hy hdr h)]
  · rw [ncmp_gt h, ncmp_gt (cmp_lt hd2 hl.symm hy hx hdr.symm h)]

theorem ncmp_ne {a b : Nat} (h : a ≠ b) : (ncmp a b != 0) = true := by
  rcases Nat.lt_or_gt_of_ne h with h | h
  · rw [ncmp_lt h]; decide
  · rw [ncmp_gt h]; decide

set_option maxRecDepth 100000 in
set_option maxHeartbeats 2000000 in
theorem lcmp_any (w : World) (A1 : Option Addr) (n1 c1 : Nat) (xs : List Nat) (hs1 : Sl w w.heap.size A1 n1 c1 xs) (A2 : Option Addr) (n2 c2 : Nat) (ys : List Nat) (hs2 : Sl w w.heap.size A2 n2 c2 ys) (hd : Dg b64 xs) (hd2 : Dg b64 ys) :
    Calls Try.prog 19 #[.slice A1 n1 c1, .slice A2 n2 c2] w fun e w' => RetV w (.int .i64 (ncmp (V b64 xs) (V b64 ys))) e w' := by
  have hX := trimmed_nm hd
  have hY := trimmed_nm hd2
  have hs3 := sl_trim hs1
  have hs4 := sl_trim hs2
  refine (callsIn_wide (n := 9)).1 ?_
  refine callsIn_of_wp_marks Try.func19 rfl trivial ?_ rfl
  simp only [Try.ntmps19, List.size_toArray, List.length_cons, List.length_nil, Nat.reduceAdd, Nat.reduceSub, Array.replicate_succ, Array.replicate_zero, List.push_toArray, List.append_toArray, List.nil_append, List.cons_append]
  gi_wp2_with fail
  refine ⟨trivial, callsIn_wide.2 ((ltrim_sl _ w.heap.size A1 n1 c1 xs (hs1.below ((Below.refl _ _).alloc (Nat.le_refl _) _))).mono ?_)⟩
  rintro e w1 ⟨m1, rfl, h1, hm1, rfl⟩
  gi_wp2_with fail
  refine ⟨trivial, callsIn_wide.2 ((ltrim_sl _ w.heap.size A2 n2 c2 ys (hs2.below ((Below.refl _ _).alloc (Nat.le_refl _) _))).mono ?_)⟩
  rintro e w1 ⟨m2, rfl, h2, hm2, rfl⟩
  gi_wp2_with fail
  refine ⟨trivial, callsIn_wide.2 ((cmpI_any m1 m2 _).mono ?_)⟩
  rintro e w1 ⟨rfl, rfl⟩
  by_cases hne : m1 = m2
  · subst hne
    have e0 : ncmp m1 m1 = 0 := ncmp_eq m1
    rw [e0]
    gi_wp2_with fail
    refine ⟨trivial, (back_in Fence.wide _ trivial rfl _ _ _ _).mono ?_⟩
    rintro e w1 ⟨rfl, rfl⟩
    gi_wp2_with fail
    have HX := Lib.hid hX
    have HY := Lib.hid hY
    have HE := Lib.hid e0
    clear e0 hX hY
    have bR := Boxed.new w 3 (.int .i64 0)
    have bY := Boxed.new (w.alloc (.cells #[.int .i64 0] 3)) 23 (.slice A2 m1 c2)
    have bX := Boxed.new ((w.alloc (.cells #[.int .i64 0] 3)).alloc (.cells #[.slice A2 m1 c2] 23)) 23 (.slice A1 m1 c1)
    have bR2 := (bR.alloc (.cells #[.slice A2 m1 c2] 23)).alloc (.cells #[.slice A1 m1 c1] 23)
    have bY2 := bY.alloc (.cells #[.slice A1 m1 c1] 23)
    have hB0 : Below w.heap.size w (((w.alloc (.cells #[.int .i64 0] 3)).alloc (.cells #[.slice A2 m1 c2] 23)).alloc (.cells #[.slice A1 m1 c1] 23)) := (((Below.refl _ w).alloc (Nat.le_refl _) _).alloc (by simp) _).alloc (by simp; omega) _
    obtain ⟨W0, hW0⟩ : ∃ W0, (((w.alloc (.cells #[.int .i64 0] 3)).alloc (.cells #[.slice A2 m1 c2] 23)).alloc (.cells #[.slice A1 m1 c1] 23)) = W0 := ⟨_, rfl⟩
    have hsz : W0.heap.size = w.heap.size + 3 := by rw [← hW0]; simp
    rw [hW0] at bX bR2 bY2 hB0 ⊢
    simp only [World.size_alloc] at bX bR2 bY2
    have h1' : Sl W0 w.heap.size A1 m1 c1 (trimmed xs) := (sl_trim_of hs1 h1).below hB0
    have h2' : Sl w w.heap.size A2 m1 c2 (trimmed ys) := sl_trim_of hs2 h2
    have HSZ := Lib.hid hsz
    clear hsz hW0 bR bY h1 h2 hs1 hs2 hs3 hs4
    refine wpIn_rangeFunc_ownG rfl (by omega) (gf := 56) (lb := #[.pointer (some ⟨w.heap.size + 1 + 1, 0, none⟩)]) rfl trivial (enters_of Try.func56 (by kernel_rfl) rfl)
      (back_stops Fence.wide _ trivial rfl (by omega) (w.heap.size + 1 + 1) w.heap.size m1 c1 A1 (trimmed xs) W0 (by rw [HSZ.out]; omega) (by rw [HSZ.out]; omega) bX.cell h1') KpB.trans (KpB.put (by rw [HSZ.out]; omega) (by rw [HSZ.out]; omega)) (Below.refl _ _) (fun _ => rfl)
      (fun pre W => ((∀ i ∈ pre, (trimmed xs)[i.1]? = (trimmed ys)[i.1]?) ∧ W.cell? ⟨w.heap.size, 0, none⟩ = some (.int .i64 0) ∧ W.frozen? ⟨w.heap.size, 0, none⟩ = false ∧ W.cell? ⟨w.heap.size + 1, 0, none⟩ = some (.slice A2 m1 c2)) ∧ Below w.heap.size w W)
      (fun c pre W => (c = .ret ∧ ∃ ini last, pre = ini ++ [last] ∧ (∀ i ∈ ini, (trimmed xs)[i.1]? = (trimmed ys)[i.1]?) ∧ (trimmed xs)[last.1]?.getD 0 ≠ (trimmed ys)[last.1]?.getD 0 ∧ W.cell? ⟨w.heap.size, 0, none⟩ = some (.int .i64 (ncmp ((trimmed xs)[last.1]?.getD 0) ((trimmed ys)[last.1]?.getD 0)))) ∧ Below w.heap.size w W)
      (OwnFrom.and (Own.from (fun s A B row hs hg hr => ⟨hs.1, cell_kept hs.2.1 hg hr, (frozen_kept hs.2.1 hg hr).trans hs.2.2.1, cell_kept hs.2.2.2 hg hr⟩) _) (ownFrom_below (Nat.le_refl _) (by rw [HSZ.out]; omega)))
      (fun c => OwnFrom.and (Own.from (fun s A B row hs hg hr => by obtain ⟨hc, ini, last, e1, e2, e3, e4⟩ := hs; exact ⟨hc, ini, last, e1, e2, e3, cell_kept e4 hg hr⟩) _) (ownFrom_below (Nat.le_refl _) (by rw [HSZ.out]; omega)))
      ⟨⟨by simp, bR2.cell, bR2.frozen, bY2.cell⟩, hB0⟩
      (fun x => { tmps := #[.slice A1 n1 c1, .slice A2 n2 c2, undef, undef, .pointer (some ⟨w.heap.size, 0, none⟩), .slice A1 m1 c1, .pointer (some ⟨w.heap.size + 1, 0, none⟩), .int .i64 0, .int .i64 (x.1 : Int), .int .u64 (((trimmed xs)[x.1]?.getD 0 : Nat) : Int), undef, .slice A1 n1 c1, .slice A1 m1 c1, .slice A2 n2 c2, .slice A2 m1 c2, .slice A1 m1 c1, .int .i64 (m1 : Int), .slice A2 m1 c2, .int .i64 (m1 : Int), .int .i64 0, .int .i64 0, .bool false, undef, .slice A1 m1 c1, .func (.func 56) #[] #[.pointer (some ⟨w.heap.size + 1 + 1, 0, none⟩)], .int .i64 (x.1 : Int), .int .u64 (((trimmed xs)[x.1]?.getD 0 : Nat) : Int), undef, undef, undef, undef, undef, undef, undef, undef, undef], defers := [] }) ?assign ?body ?done ?stop
    case assign =>
      intro l x W K hK
      gi_wp2
      exact hK
    case body =>
      rintro l pre x W ⟨⟨hp, hcr, hfr, hcy⟩, hB⟩ _
      obtain ⟨i, hi⟩ := x
      obtain ⟨b, off, y, rfl, hb, hy, hc⟩ := (h2'.below hB).at_ hi
      obtain ⟨xv, hxv⟩ : ∃ xv, (trimmed xs)[i]? = some xv := get_lt (by rw [← h1'.len]; exact hi)
      have HI := Lib.hid hp
      have HXV := Lib.hid hxv
      have HYV := Lib.hid hy
      clear hp hy
      dsimp only
      rw [hxv]
      dsimp only [Option.getD_some]
      clear hxv
      have hii : (i : Int) < m1 := by omega
      by_cases hxy : xv = y
      · subst hxy
        have e1 := ncmp_eq xv
        have HE1 := Lib.hid e1
        clear e1
        gi_wp2_with (refine ⟨trivial, ?_⟩; gi_at_call 44; refine (CallsIn.inRound l (callsIn_wide.2 (cmpU_any xv xv W))).mono ?_; rw [HE1.out]; rintro e w' ⟨rfl, rfl⟩)
        exact ⟨KeepsFrom.refl _ _, KpB.refl _ _ _, ⟨fun j hj => (List.mem_append.1 hj).elim (HI.out j) (fun e => by simp at e; subst e; exact HXV.out.trans HYV.out.symm), hcr, hfr, hcy⟩, hB⟩
      · have hnz := ncmp_ne hxy
        obtain ⟨cv, hcv⟩ : ∃ cv, ncmp xv y = cv := ⟨_, rfl⟩
        rw [hcv] at hnz
        have HCV := Lib.hid hcv
        clear hcv
        gi_wp2_with (refine ⟨trivial, ?_⟩; gi_at_call 44; refine (CallsIn.inRound l (callsIn_wide.2 (cmpU_any xv y W))).mono ?_; rw [HCV.out]; rintro e w' ⟨rfl, rfl⟩)
        have hcs := World.cell?_setCell_same' W ⟨w.heap.size, 0, none⟩ (.int .i64 cv) (by rw [hcr]; rfl)
        exact ⟨(KeepsOthers.setCell _ _ _).from _, ⟨rfl, pre, ⟨i, hi⟩, rfl, HI.out, by rw [HXV.out, HYV.out]; exact hxy, by rw [HXV.out, HYV.out]; simp only [Option.getD_some]; rw [HCV.out]; exact hcs⟩, hB.setCell (p := ⟨w.heap.size, 0, none⟩) (Nat.le_refl _) _⟩
    case done =>
      rintro D ds W hD hds ⟨⟨hp, hcr, hfr, hcy⟩, hB⟩ hK
      have HDS := Lib.hid hds
      have HP := Lib.hid hp
      clear hds hp
      gi_wp2
      have hK' := (KeepsOthers.setCell W ⟨w.heap.size, 0, none⟩ (.int .i64 0)).same D _ hK rfl
      refine ⟨by simp, .inl ⟨_, _, rfl, run_takeDeferred hK', ?_⟩⟩
      have hc5 := cell_kept (World.cell?_setCell_same' W ⟨w.heap.size, 0, none⟩ (.int .i64 0) (by rw [hcr]; rfl)) (grownBy_putObj' _ D (.deferred none)) (fun r e => by cases e; exact ⟨_, hK', rfl⟩)
      have hxy : trimmed xs = trimmed ys := by
        apply List.ext_getElem?
        intro j
        rcases Nat.lt_or_ge j m1 with h | h
        · obtain ⟨x, hx, rfl⟩ := mem_down HDS.out (i := j) (by omega) h
          exact HP.out x hx
        · rw [List.getElem?_eq_none (by rw [← h1'.len]; exact h), List.getElem?_eq_none (by rw [← h2'.len]; exact h)]
      have hz : ncmp (V b64 xs) (V b64 ys) = 0 := by rw [← HX.out.2.2, ← HY.out.2.2, hxy, ncmp_eq]
      refine ⟨.int .i64 0, ?_, by rw [hz], (hB.setCell (p := ⟨w.heap.size, 0, none⟩) (Nat.le_refl _) _).trans (belowK_b (w := W0) (by rw [HSZ.out]; omega) _ D _ _ hD hK' rfl rfl)⟩
      simp [results, Try.f19, go_sem, hc5]
    case stop =>
      rintro D c pre W hD ⟨k, hk, hkp⟩ ⟨⟨rfl, ini, last, e1, e2, e3, hcr⟩, hB⟩ hK
      have HKP := Lib.hid hkp
      have HE1 := Lib.hid e1
      have HE2 := Lib.hid e2
      have HE3 := Lib.hid e3
      clear hkp e1 e2 e3
      obtain ⟨cv, hcv⟩ : ∃ cv, ncmp ((trimmed xs)[last.1]?.getD 0) ((trimmed ys)[last.1]?.getD 0) = cv := ⟨_, rfl⟩
      rw [hcv] at hcr
      have HCV := Lib.hid hcv
      clear hcv
      gi_wp2
      refine ⟨by simp, .inl ⟨_, _, rfl, run_takeDeferred hK, ?_⟩⟩
      have hc5 := cell_kept hcr (grownBy_putObj' _ D (.deferred none)) (fun r e => by cases e; exact ⟨_, hK, rfl⟩)
      have hfin : ncmp (V b64 xs) (V b64 ys) = cv := by
        have hkp := HKP.out
        rw [HE1.out] at hkp
        obtain ⟨k', rfl⟩ : ∃ k', k = k' + 1 := by
          cases k with
          | zero => simp [downL] at hkp
          | succ k' => exact ⟨k', rfl⟩
        rw [downL_succ, List.map_append] at hkp
        obtain ⟨hini, hlast⟩ := List.append_inj' hkp rfl
        have hl : last.1 = m1 - 1 - k' := by simpa using hlast
        rw [← HCV.out, ← HX.out.2.2, ← HY.out.2.2]
        refine cmp_at HX.out.1 HY.out.1 (by rw [← h1'.len, ← h2'.len]) (by rw [← h1'.len]; exact last.2) HE3.out (fun i hi1 hi2 => ?_)
        rw [← h1'.len] at hi2
        obtain ⟨x, hx, rfl⟩ := mem_down hini (i := i) (by omega) hi2
        exact HE2.out x hx
      refine ⟨.int .i64 cv, ?_, by rw [hfin], hB.trans (belowK_b (w := W0) (by rw [HSZ.out]; omega) _ D _ _ hD hK rfl rfl)⟩
      simp [results, Try.f19, go_sem, hc5]
  · have hl1 := h1.len
    have hl2 := h2.len
    have e0 : ncmp m1 m2 = ncmp (V b64 xs) (V b64 ys) := by
      rw [← hX.2.2, ← hY.2.2]
      rcases Nat.lt_or_gt_of_ne hne with h | h
      · rw [ncmp_lt h, ncmp_lt (lt_of_length hX.1 (by decide) hY.2.1 (by rw [← hl1, ← hl2]; exact h))]
      · rw [ncmp_gt h, ncmp_gt (lt_of_length hY.1 (by decide) hX.2.1 (by rw [← hl1, ← hl2]; exact h))]
    have hnz := ncmp_ne hne
    obtain ⟨cv, hcv⟩ : ∃ cv, ncmp m1 m2 = cv := ⟨_, rfl⟩
    rw [hcv] at hnz
    have HCV := Lib.hid hcv
    have HE := Lib.hid e0
    rw [hcv]
    clear hcv e0 hl1 hl2
    gi_wp2
    refine ⟨.int .i64 cv, ?_, by rw [← HE.out, HCV.out], ?_⟩
    · simp [results, Try.f19, go_sem]
    · exact ((Below.refl _ w).alloc (Nat.le_refl _) _).alloc (by simp) _
end Go.Proofs.Ytfiakaenenbhpaa
