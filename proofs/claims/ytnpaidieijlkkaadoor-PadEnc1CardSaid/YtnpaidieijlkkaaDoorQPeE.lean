/- pad: fill. -/
import Derived.Test.YtnpaidieijlkkaaDoorQPeD
import Derived.Test.YtnpaidieijlkkaaDoorPileJ10
set_option linter.unusedVariables false
set_option linter.unusedSimpArgs false
namespace Go.Proofs.YtnpaidieijlkkaaDoor
open Go.RowKit Go.Shelf
attribute [local go_sem] shutOp Oper.semAt_some

/-- a body with a label that no goto names, within a fence -/
theorem wpIn_scope2 {F : Fence} {n : Nat} {P : Program} {c : Code} {Q : Exit → Act → World → Prop} {a : Act} {w : World} (h : c.wpIn F n P (Exit.noGoto Q) a w) : (Code.scope c).wpIn F n P Q a w := by
  intro b k cs hro hb hr
  have s0 : (lone (b.atR a (.code (.scope c) :: k)) cs w).fenced P F := fenced_calm hb hr rfl
  have s1 : step P (lone (b.atR a (.code (.scope c) :: k)) cs w) = .next (lone (b.atR a (.code c :: .inScope c :: k)) cs w) := step_lone_go (by simp [stepG, stepG.exec, Frame.atR])
  obtain ⟨e, a₁, w₁, hq, harr⟩ := h b (.inScope c :: k) cs hro hb hr
  have s2 : step P (lone (b.atR a₁ (.inScope c :: k)) cs w₁) = .next (lone (b.atR a₁ k) cs w₁) := step_lone_go (by simp [stepG, stepG.exec, Frame.atR])
  cases e with
  | normal => exact ⟨.normal, a₁, w₁, hq, .head s0 s1 (StepsIn.trans harr (.one (fenced_calm hb hr rfl) s2))⟩
  | goto l => exact hq.elim
  | exit id =>
    have hx : exitTo id (.inScope c :: k) = exitTo id k := by simp [exitTo]
    refine ⟨.exit id, a₁, w₁, hq, fun k' hk => .head s0 s1 (harr.1 k' (hx.trans hk)), fun hr' hk => ?_⟩
    obtain ⟨k₁, h1, h2⟩ := harr.2 hr' (hx.trans hk)
    exact ⟨k₁, h1, .head s0 s1 h2⟩
  | ret => exact ⟨_, a₁, w₁, hq, .of_steps (.one s0 s1) harr⟩
  | panic ch => exact ⟨_, a₁, w₁, hq, .of_steps (.one s0 s1) harr⟩
  | outgrown => exact ⟨_, a₁, w₁, hq, .of_steps (.one s0 s1) harr⟩

/-- a row whose bytes from place 2 on are f's -/
def midF (ys : List Value) (f : List (BitVec 8)) : List Value := ys.take 2 ++ (f.map W8 ++ ys.drop (2 + f.length))
theorem midF_nil (ys : List Value) : midF ys [] = ys := by
  rw [midF, List.map_nil, List.nil_append]
  exact List.take_append_drop 2 ys
theorem midF_set (ys : List Value) (f : List (BitVec 8)) (x : BitVec 8) (h : 2 + f.length < ys.length) : (midF ys f).set (2 + f.length) (W8 x) = midF ys (f ++ [x]) := by
  have h2 : (ys.take 2).length = 2 := by rw [List.length_take]; omega
  have e : ys.drop (2 + f.length) = ys[2 + f.length] :: ys.drop (2 + f.length + 1) := List.drop_eq_getElem_cons h
  rw [midF, midF, List.set_append_right _ _ (by omega), h2, List.set_append_right _ _ (by rw [List.length_map]; omega), List.length_map, e, show 2 + f.length - 2 - f.length = 0 by omega, List.set_cons_zero, List.map_append, List.append_assoc, List.length_append]
  rfl
theorem midF_length (ys : List Value) (f : List (BitVec 8)) (h : 2 + f.length ≤ ys.length) : (midF ys f).length = ys.length := by
  rw [midF, List.length_append, List.length_append, List.length_take, List.length_map, List.length_drop]; omega
/-- the memory ahead of a round, f filled in -/
def FiM (w : World) (B g x2 r cr : Nat) (ys : List Value) (f : List (BitVec 8)) (W : World) : Prop :=
  Below B w W ∧ RowV 5 W g (midF ys f) ∧ BxE x2 (.slice (some ⟨g, 2, none⟩) r cr) W ∧ BxE (x2 + 1) (.bool false) W ∧ BxE (x2 + 2) (.int .i64 (f.length : Int)) W
theorem FiM.own {w : World} {B g x2 r cr : Nat} {ys : List Value} {f : List (BitVec 8)} {S : Nat} (hS : B ≤ S) {W W' : World} {row : Option Nat} (h : FiM w B g x2 r cr ys f W) (hg : W.grownBy W' row) (hr' : ∀ r, row = some r → S ≤ r ∧ ∃ o : Obj, W.heap[r]? = some o ∧ o.isCells = false) (hB : B ≤ x2) : FiM w B g x2 r cr ys f W' := by
  obtain ⟨h1, h2, h3, h4, h5⟩ := h
  have hc := fun r e => (hr' r e).2
  exact ⟨h1.grown hg (by have := h3.2.2; omega) (fun r e => by have := (hr' r e).1; omega), h2.kept hg hc, h3.kept hg hc, h4.kept hg hc, h5.kept hg hc⟩
theorem FiM.onlyG {w : World} {B g x2 r cr q : Nat} {ys : List Value} {f : List (BitVec 8)} {W W' : World} (h : FiM w B g x2 r cr ys f W) (hg : OnlyV W W' q) (hB : B ≤ q) (hgq : g ≠ q) (hq : q < x2) : FiM w B g x2 r cr ys f W' := by
  obtain ⟨h1, h2, h3, h4, h5⟩ := h
  exact ⟨h1.grown hg (by have := h3.2.2; omega) (fun r e => by injection e; omega), h2.grownG hg hgq, h3.grownG hg (by omega), h4.grownG hg (by omega), h5.grownG hg (by omega)⟩
def FiI (w : World) (B g x2 r cr : Nat) (ys : List Value) (K : Nat) (pre : List (BitVec 8)) (W : World) : Prop :=
  pre.length ≤ K ∧ (nzL pre).length < r ∧ FiM w B g x2 r cr ys (nzL pre) W
def FiX (w : World) (B g x2 r cr q : Nat) (ys : List Value) (rb : List (BitVec 8)) (K : Nat) (c : Code) (pre : List (BitVec 8)) (W : World) : Prop :=
  c = .exit 0 ∧ pre = rb.take pre.length ∧ pre.length ≤ K ∧ (nzL pre).length = r ∧ FiM w B g x2 r cr ys (nzL pre) W ∧ BxE q (.int .i64 (pre.length : Int)) W
set_option maxRecDepth 100000 in
set_option maxHeartbeats 4000000 in
theorem pfill_in (w : World) (B g q bb cc ab : Nat) (hbq : bb ≠ q) (hcq : cc ≠ q) (A : Option Addr) (n c : Nat) (rb : List (BitVec 8)) (hab : rb ≠ [] → ∀ b off s, A = some ⟨b, off, s⟩ → b = ab) (haq : ab ≠ q) (habx : ab < w.heap.size)
    (hsl : SlV w w.heap.size A n c (rb.map W8)) (hn2 : n ≤ 1000000) (hq : BxE q (.int .i64 0) w) (hb : BxE bb (.slice A n c) w) (hc : BxE cc (.pointer (some ⟨q, 0, none⟩)) w)
    (r cr : Nat) (hr : 1 ≤ r) (hrr : r ≤ 1000000) (ys : List Value) (hg : RowV 5 w g ys) (hgl : 2 + r ≤ ys.length) (hcr : r ≤ cr) (K : Nat) (hK : FillEnd rb r K) (hgq : g ≠ q) (hgb : g ≠ bb) (hgc : g ≠ cc) (hga : g ≠ ab) (hBg : B ≤ g) (hBq : B ≤ q) :
    CallsIn Fence.wide 9 Tryd.prog 47 #[.slice (some ⟨g, 2, none⟩) r cr, .func (.func 48) #[] #[.pointer (some ⟨bb, 0, none⟩), .pointer (some ⟨cc, 0, none⟩)]] w fun e w' =>
      e = .returned (.bool ((((nzL (rb.take K)).length : Nat) : Int) == (r : Int))) ∧ RowV 5 w' g (midF ys (nzL (rb.take K))) ∧ BxE q (.int .i64 (K : Int)) w' ∧ Below B w w' := by
  have hmf : ∀ (fn : Fn) (first cap : Array Value) (w : World), (Instr.makeFunc fn first cap).run Tryd.prog w = .ok (.func fn first cap) w := fun _ _ _ _ => rfl
  obtain ⟨W1, e1, hB1, b2, s1⟩ := newBox w 22 (.slice (some ⟨g, 2, none⟩) r cr)
  obtain ⟨W2, e2, hB2, b4, s2⟩ := newBox W1 4 (.bool false)
  obtain ⟨W3, e3, hB3, b5, s3⟩ := newBox W2 3 (.int .i64 0)
  obtain ⟨x2, hx2⟩ : ∃ b, w.heap.size = b := ⟨_, rfl⟩
  rw [hx2] at b2 s1
  have s2' : W2.heap.size = x2 + 2 := by omega
  have s3' : W3.heap.size = x2 + 3 := by omega
  rw [s1] at b4
  rw [s2'] at b5
  have q5 := b5.1
  have f5 := b5.2.1
  have HS3 := Lib.hid s3'
  clear s2 s3 s3'
  obtain ⟨W4, e4⟩ : ∃ V, W3.setCell ⟨x2 + 2, 0, none⟩ (.int .i64 0) = V := ⟨_, rfl⟩
  have b54 : BxE (x2 + 2) (.int .i64 0) W4 := by rw [← e4]; exact b5.set _
  have hxw : W4.heap.size = x2 + 3 := by rw [← e4]; simp [World.setCell]; exact HS3.out
  have hgx := hg.lt
  have hqx := hq.2.2
  rw [hx2] at hgx hqx hB1
  rw [s1] at hB2
  rw [s2'] at hB3
  have hB4 : Below x2 w W4 := by rw [← e4]; exact below_box ((hB1.trans (hB2.mono (by omega))).trans (hB3.mono (by omega))) (by omega) _
  have hB4' : Below w.heap.size w W4 := by rw [hx2]; exact hB4
  have hm0 : FiM w B g x2 r cr ys [] W4 := by
    refine ⟨hB4.mono (by omega), by rw [midF_nil]; exact hg.later hB4', ?_, ?_, b54⟩
    · rw [← e4]; exact ((b2.later (hB2.mono (by omega))).later (hB3.mono (by omega))).far (by omega) _
    · rw [← e4]; exact (b4.later (hB3.mono (by omega))).far (by omega) _
  have hseq := given1_in 8 (by decide) W4 q bb cc ab hbq hcq A n c rb hab haq ((hsl.below hB4').more hB4'.size) hn2 (hq.later hB4') (hb.later hB4') (hc.later hB4') (n + 1)
  refine callsIn_of_wp_marks Tryd.func47 rfl trivial ?_ rfl
  simp only [Tryd.ntmps47, List.size_toArray, List.length_cons, List.length_nil, Nat.reduceAdd, Nat.reduceSub, Array.replicate_succ, Array.replicate_zero, List.push_toArray, List.append_toArray, List.nil_append, List.cons_append]
  gi_wp2_with fail
  refine wpIn_scope2 ?_
  gi_wp2_with fail
  refine wpIn_label ?_
  gi_wp2_with fail
  have hbx := hb.2.2
  have hcx := hc.2.2
  rw [hx2] at hbx hcx habx
  have HM0 := Lib.hid hm0
  have HSEQ := Lib.hid hseq
  have HK := Lib.hid hK
  have HRB := Lib.hid (show rb.length = n by simpa using hsl.len.symm)
  clear hm0 hseq hK hsl hq hb hc hg b2 b4 b5 b54 q5 f5
  refine wpIn_rangeG rfl (by decide) (gf := 48) (lb := #[.pointer (some ⟨bb, 0, none⟩), .pointer (some ⟨cc, 0, none⟩)]) rfl trivial (enters_of Tryd.func48 (by kernel_rfl) rfl)
    (by omega : q < W4.heap.size) HSEQ.out (fun a b => a.trans b) (fun W l ob ob' hl _ _ _ => KpS.put (by intro p hp; simp only [List.mem_cons, List.not_mem_nil, or_false] at hp; rcases hp with rfl | rfl | rfl | rfl <;> omega) _) (fun _ => rfl)
    (FiI w B g x2 r cr ys K) (FiX w B g x2 r cr q ys rb K)
    ?hI ?hIg ?hIN ?hIx (fun pre => GvR.own _ _ _ pre) (GvS.own _ _ _) ?hI0 (fun A B hA hb => KpS.below hb (by intro p hp; simp only [List.mem_cons, List.not_mem_nil, or_false] at hp; rcases hp with rfl | rfl | rfl | rfl <;> omega))
    (fun x W a' W' => a' = { tmps := #[.slice (some ⟨g, 2, none⟩) r cr, .func (.func 48) #[] #[.pointer (some ⟨bb, 0, none⟩), .pointer (some ⟨cc, 0, none⟩)], .pointer (some ⟨x2, 0, none⟩), undef, .pointer (some ⟨x2 + 1, 0, none⟩), .pointer (some ⟨x2 + 2, 0, none⟩), W8 x, .func (.func 74) #[] #[.pointer (some ⟨x2 + 2, 0, none⟩), .pointer (some ⟨x2, 0, none⟩), .pointer (some ⟨x2 + 1, 0, none⟩)], .func (.func 48) #[] #[.pointer (some ⟨bb, 0, none⟩), .pointer (some ⟨cc, 0, none⟩)], W8 x, undef, undef, undef, undef, undef, undef, undef, undef, undef, undef, undef, undef], defers := [] }) ?assign ?hAx ?body ?done ?stop
  case hI =>
    rintro s W W' row ⟨h1, h2, h3⟩ hg hr'
    exact ⟨h1, h2, h3.own (by omega) hg hr' (by omega)⟩
  case hIg =>
    rintro s W W' ⟨h1, h2, h3⟩ hg
    exact ⟨h1, h2, h3.onlyG hg hBq hgq (by omega)⟩
  case hIN =>
    rintro s W ⟨h1, _⟩
    have := HK.out.1
    have := HRB.out
    omega
  case hIx =>
    rintro c s W W' row ⟨h1, h2, h3, h4, h5, h6⟩ hg hr'
    exact ⟨h1, h2, h3, h4, h5.own (by omega) hg hr' (by omega), h6.kept hg (fun r e => (hr' r e).2)⟩
  case hI0 => exact ⟨by simp, by show 0 < r; omega, HM0.out⟩
  case assign =>
    rintro l pre x W K' hW hx hK'
    have HKK := Lib.hid (hK' _ W (Below.refl _ _) rfl)
    clear hK' hx
    gi_wp2
    exact HKK.out
  case hAx =>
    rintro x W a' W' o' h1 l ob _ hl ho _
    exact h1
  case body =>
    rintro l pre x W0 a' W hW0 rfl ⟨h1, h2, h3⟩ ⟨g1, g2, g3⟩
    obtain ⟨m1, m2, m3, m4, m5⟩ := h3
    have hW : x2 + 3 ≤ W.heap.size := by have := m5.2.2; omega
    obtain ⟨j, hj⟩ : ∃ j, pre.length = j := ⟨_, rfl⟩
    rw [hj] at h1 g1 g2 g3
    have hst := nzL_step g2
    have htk : pre ++ [x] = rb.take (j + 1) := by rw [List.take_add_one, g2, ← g1]; rfl
    rw [← htk, ← g1] at hst
    obtain ⟨f, hf⟩ : ∃ f, nzL pre = f := ⟨_, rfl⟩
    rw [hf] at h2 m2 m5 hst
    obtain ⟨L, hL⟩ : ∃ L, f.length = L := ⟨_, rfl⟩
    rw [hL] at h2 m5
    have hjK : j + 1 ≤ K := by
      rcases Nat.lt_or_ge j K with h | h
      · exact h
      · exfalso
        obtain rfl : j = K := by omega
        rcases HK.out.2.2 with h3 | ⟨h3, _⟩
        · rw [← g1, hf] at h3; omega
        · have := (List.getElem?_eq_some_iff.1 g2).1; omega
    have hpl : (pre ++ [x]).length = j + 1 := by rw [List.length_append, List.length_singleton, hj]
    have q3 := m3.1
    have q5 := m5.1
    have f5 := m5.2.1
    have kL : (L : Int) < r := by omega
    by_cases hx0 : x = 0
    · subst hx0
      rw [if_pos rfl] at hst
      have hpost : FiI w B g x2 r cr ys K (pre ++ [0]) W := ⟨by rw [hpl]; exact hjK, by rw [hst, hL]; exact h2, by rw [hst]; exact ⟨m1, m2, m3, m4, by rw [hL]; exact m5⟩⟩
      have HP := Lib.hid hpost
      clear hpost m1 m2 m3 m4 m5 hst htk g1 g2 g3
      gi_wp2
      exact ⟨KeepsFrom.refl _ _, ⟨Nat.le_refl _, fun _ _ => rfl⟩, HP.out⟩
    · rw [if_neg hx0] at hst
      have kx : (i8 x == 0) = false := by simpa using (show ¬ i8 x = (0 : Int) from fun h => hx0 (by unfold i8 at h; exact BitVec.eq_of_toNat_eq (by simpa using h)))
      have hlen2 : 2 + f.length < ys.length := by omega
      have hml := midF_length ys f (by omega)
      obtain ⟨v0, hv0⟩ : ∃ v, (midF ys f)[2 + L]? = some v := ⟨_, List.getElem?_eq_getElem (by omega)⟩
      have hc0 := m2.at_ hv0
      have hf0 := m2.frozen (2 + L)
      obtain ⟨Wa, ea⟩ : ∃ V, W.setCell ⟨g, 2 + L, none⟩ (W8 x) = V := ⟨_, rfl⟩
      have hoa : OnlyV W Wa g := by rw [← ea]; exact (OnlyV.refl _ _).set (2 + L) _
      have ra : RowV 5 Wa g (midF ys (f ++ [x])) := by
        rw [← ea, ← midF_set ys f x hlen2, hL]; exact m2.set _ _
      have a3 := m3.grownG hoa (by omega)
      have a4 := m4.grownG hoa (by omega)
      have a5 := m5.grownG hoa (by omega)
      have a1 := m1.grown hoa (by omega) (fun r e => by injection e; omega)
      obtain ⟨Wb, eb⟩ : ∃ V, Wa.setCell ⟨x2 + 2, 0, none⟩ (.int .i64 ((L : Int) + 1)) = V := ⟨_, rfl⟩
      have hob : OnlyV Wa Wb (x2 + 2) := by rw [← eb]; exact (OnlyV.refl _ _).set 0 _
      have b5 : BxE (x2 + 2) (.int .i64 ((L : Int) + 1)) Wb := by rw [← eb]; exact a5.set _
      have b3 := a3.grownG hob (by omega)
      have b4 := a4.grownG hob (by omega)
      have rb' := ra.grownG hob (by omega)
      have b1 := a1.grown hob (by have := hoa.size; omega) (fun r e => by injection e; omega)
      have qa5 := a5.1
      have fa5 := a5.2.1
      have qb5 := b5.1
      have qb3 := b3.1
      have hkf : KeepsFrom W4.heap.size W Wb := (KeepsFrom.of_grownBy hoa (fun r e => by injection e; omega)).trans (KeepsFrom.of_grownBy hob (fun r e => by injection e; omega))
      have hkp : KpS [bb, cc, q, ab] W Wb := ⟨Nat.le_trans hoa.size hob.size, by
        intro p hp
        have hne : p < W.heap.size ∧ p ≠ g ∧ p ≠ x2 + 2 := by
          simp only [List.mem_cons, List.not_mem_nil, or_false] at hp
          rcases hp with rfl | rfl | rfl | rfl <;> omega
        have hs := hoa.size
        rw [hob.block p (by omega) (fun e => hne.2.2 (by injection e)), hoa.block p hne.1 (fun e => hne.2.1 (by injection e))]⟩
      have hm : FiM w B g x2 r cr ys (nzL (pre ++ [x])) Wb := by
        rw [hst]
        refine ⟨b1, rb', b3, b4, ?_⟩
        rw [List.length_append, List.length_singleton, hL, show ((L + 1 : Nat) : Int) = (L : Int) + 1 by omega]
        exact b5
      have hq' : BxE q (.int .i64 ((j : Int) + 1)) Wb := (g3.grownG hoa (by omega)).grownG hob (by omega)
      have HM := Lib.hid (⟨hkf, hkp, hm, hq'⟩ : KeepsFrom W4.heap.size W Wb ∧ KpS [bb, cc, q, ab] W Wb ∧ FiM w B g x2 r cr ys (nzL (pre ++ [x])) Wb ∧ BxE q (.int .i64 ((j : Int) + 1)) Wb)
      have hnl : (nzL (pre ++ [x])).length = L + 1 := by rw [hst, List.length_append, List.length_singleton, hL]
      have HE := Lib.hid (⟨hnl, htk, hpl⟩ : (nzL (pre ++ [x])).length = L + 1 ∧ pre ++ [x] = rb.take (j + 1) ∧ (pre ++ [x]).length = j + 1)
      clear hkf hkp hm hq' hnl htk hpl a1 a3 a4 a5 b1 b3 b4 b5 ra rb' hoa hob m1 m2 m3 m4 m5 g1 g2 g3 hst hv0 hf hL hml
      by_cases hfull : L + 1 = r
      · have kf : ((L : Int) + 1 == (r : Int)) = true := by simp; omega
        gi_wp2
        refine ⟨HM.out.1, rfl, ?_, ?_, ?_, HM.out.2.2.1, ?_⟩
        · rw [HE.out.2.2]; exact HE.out.2.1
        · rw [HE.out.2.2]; exact hjK
        · rw [HE.out.1]; exact hfull
        · rw [HE.out.2.2, show ((j + 1 : Nat) : Int) = (j : Int) + 1 by omega]; exact HM.out.2.2.2
      · have kf : ((L : Int) + 1 == (r : Int)) = false := by simp; omega
        gi_wp2
        exact ⟨HM.out.1, HM.out.2.1, by rw [HE.out.2.2]; exact hjK, by rw [HE.out.1]; omega, HM.out.2.2.1⟩
  case done =>
    rintro D xs W hD ⟨rfl, hqW⟩ ⟨h1, h2, hm⟩ hD2
    have hKl : xs.length = K := by have := HK.out.1; omega
    rw [hKl] at hqW
    obtain ⟨f, hf⟩ : ∃ f, nzL xs = f := ⟨_, rfl⟩
    rw [hf] at hm
    have HKV := Lib.hid (show nzL (xs.take K) = f by rw [List.take_of_length_le (by omega), hf])
    clear h1 h2 hKl hf
    have hDl := (Array.getElem?_eq_some_iff.1 hD2).1
    obtain ⟨W6, e6⟩ : ∃ V, W.putObj D (.deferred none) = V := ⟨_, rfl⟩
    have hgr : W.grownBy W6 (some D) := by rw [← e6]; exact grownBy_putObj' W D (.deferred none)
    have hrr6 : ∀ r, some D = some r → x2 + 3 ≤ r ∧ ∃ ob : Obj, W.heap[r]? = some ob ∧ ob.isCells = false := fun r e => by cases e; exact ⟨by omega, _, hD2, rfl⟩
    have hm6 := hm.own (S := x2 + 3) (by omega) hgr hrr6 (by omega)
    have hq6 := hqW.kept hgr (fun r e => (hrr6 r e).2)
    obtain ⟨n1, n2', n3, n4, n5⟩ := hm6
    have hfin : RowV 5 (W6.setCell ⟨x2 + 1, 0, none⟩ (.bool (((f.length : Nat) : Int) == (r : Int)))) g (midF ys f) ∧ BxE q (.int .i64 (K : Int)) (W6.setCell ⟨x2 + 1, 0, none⟩ (.bool (((f.length : Nat) : Int) == (r : Int)))) ∧ Below B w (W6.setCell ⟨x2 + 1, 0, none⟩ (.bool (((f.length : Nat) : Int) == (r : Int)))) :=
      ⟨n2'.far (by show g ≠ x2 + 1; omega) _, hq6.far (by omega) _, below_box n1 (by omega) _⟩
    have h6 := (n4.set (.bool (((f.length : Nat) : Int) == (r : Int)))).1
    have HD2 := Lib.hid hD2
    have HF := Lib.hid hfin
    have H6 := Lib.hid h6
    have HN := Lib.hid (⟨n5, n3, n4⟩ : BxE (x2 + 2) (.int .i64 (f.length : Int)) W6 ∧ BxE x2 (.slice (some ⟨g, 2, none⟩) r cr) W6 ∧ BxE (x2 + 1) (.bool false) W6)
    clear hD2 hfin h6 n1 n2' n3 n4 n5 hq6 hm hqW hgr hrr6
    gi_wp2
    refine ⟨by simp, .inl ⟨_, _, rfl, run_takeDeferred HD2.out, ?_⟩⟩
    rw [e6]
    refine ⟨by simp, .inr ⟨by simp, _, _, 74, #[.pointer (some ⟨x2 + 2, 0, none⟩), .pointer (some ⟨x2, 0, none⟩), .pointer (some ⟨x2 + 1, 0, none⟩)], rfl, by simp [go_sem], fun _ _ => trivial, ?_⟩⟩
    refine (pfill1_in 8 W6 (x2 + 2) x2 (x2 + 1) f.length _ r cr _ HN.out.1 HN.out.2.1 HN.out.2.2).mono ?_
    rintro e u w7 ⟨rfl, rfl, rfl⟩
    refine ⟨.bool (((f.length : Nat) : Int) == (r : Int)), ?_, by rw [HKV.out], by rw [HKV.out]; exact HF.out⟩
    have h6 := H6.out
    simp [results, Tryd.f47, h6, go_sem]
  case stop =>
    rintro D c pre W hD _ ⟨rfl, h2, h3, h4, hm, hqW⟩ hD2
    have hKl : pre.length = K := by
      rcases Nat.lt_or_ge pre.length K with h | h
      · have h5 := HK.out.2.1 _ h
        rw [← h2] at h5
        omega
      · omega
    rw [hKl] at hqW h2
    obtain ⟨f, hf⟩ : ∃ f, nzL pre = f := ⟨_, rfl⟩
    rw [hf] at hm
    have HKV := Lib.hid (show nzL (rb.take K) = f by rw [← h2, hf])
    clear h2 h3 h4 hKl hf
    have hDl := (Array.getElem?_eq_some_iff.1 hD2).1
    obtain ⟨W6, e6⟩ : ∃ V, W.putObj D (.deferred none) = V := ⟨_, rfl⟩
    have hgr : W.grownBy W6 (some D) := by rw [← e6]; exact grownBy_putObj' W D (.deferred none)
    have hrr6 : ∀ r, some D = some r → x2 + 3 ≤ r ∧ ∃ ob : Obj, W.heap[r]? = some ob ∧ ob.isCells = false := fun r e => by cases e; exact ⟨by omega, _, hD2, rfl⟩
    have hm6 := hm.own (S := x2 + 3) (by omega) hgr hrr6 (by omega)
    have hq6 := hqW.kept hgr (fun r e => (hrr6 r e).2)
    obtain ⟨n1, n2', n3, n4, n5⟩ := hm6
    have hfin : RowV 5 (W6.setCell ⟨x2 + 1, 0, none⟩ (.bool (((f.length : Nat) : Int) == (r : Int)))) g (midF ys f) ∧ BxE q (.int .i64 (K : Int)) (W6.setCell ⟨x2 + 1, 0, none⟩ (.bool (((f.length : Nat) : Int) == (r : Int)))) ∧ Below B w (W6.setCell ⟨x2 + 1, 0, none⟩ (.bool (((f.length : Nat) : Int) == (r : Int)))) :=
      ⟨n2'.far (by show g ≠ x2 + 1; omega) _, hq6.far (by omega) _, below_box n1 (by omega) _⟩
    have h6 := (n4.set (.bool (((f.length : Nat) : Int) == (r : Int)))).1
    have HD2 := Lib.hid hD2
    have HF := Lib.hid hfin
    have H6 := Lib.hid h6
    have HN := Lib.hid (⟨n5, n3, n4⟩ : BxE (x2 + 2) (.int .i64 (f.length : Int)) W6 ∧ BxE x2 (.slice (some ⟨g, 2, none⟩) r cr) W6 ∧ BxE (x2 + 1) (.bool false) W6)
    clear hD2 hfin h6 n1 n2' n3 n4 n5 hq6 hm hqW hgr hrr6
    gi_wp2
    refine ⟨by simp, .inl ⟨_, _, rfl, run_takeDeferred HD2.out, ?_⟩⟩
    rw [e6]
    refine ⟨by simp, .inr ⟨by simp, _, _, 74, #[.pointer (some ⟨x2 + 2, 0, none⟩), .pointer (some ⟨x2, 0, none⟩), .pointer (some ⟨x2 + 1, 0, none⟩)], rfl, by simp [go_sem], fun _ _ => trivial, ?_⟩⟩
    refine (pfill1_in 8 W6 (x2 + 2) x2 (x2 + 1) f.length _ r cr _ HN.out.1 HN.out.2.1 HN.out.2.2).mono ?_
    rintro e u w7 ⟨rfl, rfl, rfl⟩
    refine ⟨.bool (((f.length : Nat) : Int) == (r : Int)), ?_, by rw [HKV.out], by rw [HKV.out]; exact HF.out⟩
    have h6 := H6.out
    simp [results, Tryd.f47, h6, go_sem]
end Go.Proofs.YtnpaidieijlkkaaDoor
