/- baileyref8: xor. -/
import Derived.Test.YtnpaidieijlkkaaDoorQPdR
import Derived.Test.YtnpaidieijlkkaaDoorQPdS
set_option linter.unusedVariables false
set_option linter.unusedSimpArgs false
namespace Go.Proofs.YtnpaidieijlkkaaDoor
open Go.RowKit Go.Shelf

theorem SlV.byte {w : World} {B n c : Nat} {A : Option Addr} {l : List (BitVec 8)} (h : SlV w B A n c (l.map W8)) {j : Nat} {x : BitVec 8} (hx : l[j]? = some x) : ∃ b o, A = some ⟨b, o, none⟩ ∧ b < B ∧ w.cell? ⟨b, o + j, none⟩ = some (W8 x) := by
  have hj : j < n := by have := h.len; rw [List.length_map] at this; have := (List.getElem?_eq_some_iff.1 hx).1; omega
  obtain ⟨b, o, v, e, hb, hv, hc⟩ := h.at_ hj
  rw [List.getElem?_map, hx] at hv
  cases hv
  exact ⟨b, o, e, hb, hc⟩
set_option maxRecDepth 100000 in
set_option maxHeartbeats 4000000 in
theorem rxor_any (w : World) (B : Nat) (hB : B ≤ w.heap.size) (A1 : Option Addr) (n c1 : Nat) (a : List (BitVec 8)) (h1 : SlV w B A1 n c1 (a.map W8)) (A2 : Option Addr) (n2 c2 : Nat) (b : List (BitVec 8)) (h2 : SlV w B A2 n2 c2 (b.map W8)) (hn : n ≤ n2) (hn2 : n2 ≤ 1000000) :
    Calls Tryd.prog 57 #[.slice A1 n c1, .slice A2 n2 c2] w fun e w' => e = .returned (.slice (some ⟨w.heap.size, 0, none⟩) n n) ∧ RowV 5 w' w.heap.size ((xorL a b).map W8) ∧ Below w.heap.size w w' := by
  have hal : a.length = n := by simpa using h1.len.symm
  have hbl : b.length = n2 := by simpa using h2.len.symm
  obtain ⟨M, hM⟩ : ∃ M, xorL a b = M := ⟨_, rfl⟩
  have hMl : M.length = n := by rw [← hM, xorL_length]; omega
  rw [hM]
  obtain ⟨G, hG⟩ : ∃ g, w.heap.size = g := ⟨_, rfl⟩
  have k1 : (n : Int) ≤ 1000000 := by omega
  have k2 : (n : Int) ≤ n2 := by omega
  have k3 : (n2 : Int) ≤ 1000000 := by omega
  have H1 := Lib.hid h1
  have H2 := Lib.hid h2
  have HM := Lib.hid (⟨hM, hMl, hal, hbl⟩ : xorL a b = M ∧ M.length = n ∧ a.length = n ∧ b.length = n2)
  have HB := Lib.hid (show B ≤ G by omega)
  have HGG := Lib.hid hG
  have hmx : Tryd.prog.follows .mixedOrders = true := by kernel_rfl
  clear h1 h2 hM hMl hal hbl hB hn hn2
  go_enter Tryd.func57, Tryd.ntmps57
  go_wp2_with (at_make; refine wlv_make Tryd.elem8 rfl _ rfl _ n rfl rfl (by omega) ?_; intro w1 hr1 hb1 hz1; clear hz1; rw [hG] at hr1 hb1)
  have hr0 : RowV 5 w1 G ((M.map W8).take 0 ++ (List.replicate n (Value.int .u8 0)).drop 0) := by simpa using hr1
  have HR0 := Lib.hid hr0
  have HB1 := Lib.hid hb1
  clear hr1 hb1 hr0
  go_loopw [6] (fun i wr => ∃ j : Nat, j ≤ n ∧ i = .int .i64 (j : Int) ∧ Hid (RowV 5 wr G ((M.map W8).take j ++ (List.replicate n (Value.int .u8 0)).drop j)) ∧ Hid (Below G w wr)) (fun i _ => n - (intOf i).toNat)
  case atStart => exact ⟨0, by omega, rfl, HR0, HB1⟩
  case round =>
    obtain ⟨j, hj, rfl, HR, HBr⟩ := hrel
    by_cases hjn : j = n
    · subst hjn
      go_wp2
      go_ret
      have h := HR.out
      rw [List.take_of_length_le (by rw [List.length_map, HM.out.2.1]; exact Nat.le_refl _), List.drop_eq_nil_of_le (by simp), List.append_nil] at h
      rw [hG]
      exact ⟨rfl, h, HBr.out⟩
    · have hji : (j : Int) < n := by omega
      have hjl : j < n := by omega
      have hjn2 : (j : Int) < n2 := by omega
      obtain ⟨x, hx⟩ : ∃ x, a[j]? = some x := ⟨_, List.getElem?_eq_getElem (by have := HM.out; omega)⟩
      obtain ⟨y, hy⟩ : ∃ y, b[j]? = some y := ⟨_, List.getElem?_eq_getElem (by have := HM.out; omega)⟩
      obtain ⟨b1, o1, e1, _, cx⟩ := (H1.out.below (HBr.out.mono HB.out)).byte hx
      obtain ⟨b2, o2, e2, _, cy⟩ := (H2.out.below (HBr.out.mono HB.out)).byte hy
      subst e1 e2
      have hMj : (M.map W8)[j]? = some (W8 (x ^^^ y)) := by rw [List.getElem?_map, ← HM.out.1, xorL_at hx hy]; rfl
      have hcl : wr.cell? ⟨G, j, none⟩ = some (.int .u8 0) := HR.out.at_ (by rw [mid_get _ _ _ (by rw [List.length_map]; have := HM.out; omega), List.getElem?_replicate, if_pos hjl])
      have hfz := HR.out.frozen j
      have hr2 := HR.out.set j (W8 (x ^^^ y))
      rw [mid_set _ _ _ _ hMj (by simpa using hjl)] at hr2
      have hB2 := below_setV HBr.out (Nat.le_refl G) j (W8 (x ^^^ y))
      have hxo := b8_xor x y
      have HR2 := Lib.hid hr2
      have HB2 := Lib.hid hB2
      clear hr2 hB2 hx hy hMj
      go_wp2
      refine (wpIn_wide (n := 9)).1 (wpIn_region_pure rfl hmx [(16, .slice (some ⟨G, 0, none⟩) n n), (17, .int .i64 (j : Int)), (18, .slice (some ⟨b1, o1, none⟩) n c1), (19, .int .i64 (j : Int)), (20, .pointer (some ⟨b1, o1 + j, none⟩)), (21, W8 x), (22, .slice (some ⟨b2, o2, none⟩) n2 c2), (23, .int .i64 (j : Int)), (24, .pointer (some ⟨b2, o2 + j, none⟩)), (25, W8 y), (26, W8 (x ^^^ y)), (27, .pointer (some ⟨G, j, none⟩))] (by kernel_rfl) (by kernel_rfl) (by kernel_rfl) (by kernel_rfl) (by first | rfl | simp) 12 (wr.setCell ⟨G, j, none⟩ (W8 (x ^^^ y))) rfl (by kernel_rfl) ?ops7 ?last7 ?end7)
      case ops7 =>
        intro i o hi ho
        have hi2 : i = 0 ∨ i = 1 ∨ i = 2 ∨ i = 3 ∨ i = 4 ∨ i = 5 ∨ i = 6 ∨ i = 7 ∨ i = 8 ∨ i = 9 ∨ i = 10 ∨ i = 11 := by omega
        rcases hi2 with rfl | rfl | rfl | rfl | rfl | rfl | rfl | rfl | rfl | rfl | rfl | rfl
        all_goals
          have ho' := ho
          simp only [List.getElem?_toArray, List.getElem?_cons_zero, List.getElem?_cons_succ, Option.some.injEq] at ho'
          subst ho'
          refine ⟨(by intro c h; cases h), fun q => ⟨fun _ _ => trivial, ?_⟩⟩
        all_goals
          first
          | (refine .inl ?_; simp [execOp, evP, valP, Act.eval, List.lookup_cons]; done)
          | (refine .inl ?_; simp [execOp, evP, valP, Act.eval, List.lookup_cons, go_sem, cx, cy, hxo, hji, hjl, hjn2]; done)
          | (refine .inl ?_; simp [execOp, evP, valP, Act.eval, List.lookup_cons, go_sem, cx, cy, hxo, hji, hjl, hjn2]; omega)
          | (refine .inl ?_; simp [execOp, evP, valP, Act.eval, List.lookup_cons, go_sem, cx, cy]; exact hxo)
      case last7 =>
        intro o ho
        have ho' := ho
        simp only [List.getElem?_toArray, List.getElem?_cons_zero, List.getElem?_cons_succ, Option.some.injEq] at ho'
        subst ho'
        refine ⟨(by intro c h; cases h), fun q => ⟨fun _ _ => trivial, .inl ⟨?_, rfl⟩⟩⟩
        simp [execOp, evP, valP, Act.eval, List.lookup_cons, go_sem, hcl, hfz]
        try rfl
      case end7 =>
        intro q
        simp [wrote, valP, Act.put, List.lookup_cons]
        obtain ⟨W7, e7⟩ : ∃ W, (wr.setCell ⟨G, j, none⟩ (W8 (x ^^^ y))).drewN q = W := ⟨_, rfl⟩
        have HR7 : Hid (RowV 5 W7 G ((M.map W8).take (j + 1) ++ (List.replicate n (Value.int .u8 0)).drop (j + 1))) := Lib.hid (by rw [← e7]; exact HR2.out)
        have HB7 : Hid (Below G w W7) := Lib.hid (by rw [← e7]; exact below_drewN HB2.out q)
        rw [e7]
        clear e7 HR2 HB2
        go_wp2
        go_roundw
        case rel => exact ⟨j + 1, by omega, by go_num, HR7, HB7⟩
        case measure => simp [intOf]; omega
end Go.Proofs.YtnpaidieijlkkaaDoor
