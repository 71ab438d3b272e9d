/- Parts of one proof, joined: LimbG, LimbH, LimbI, Base8, LimbJ, LimbM, LimbN, LimbO, DivM. -/
import Derived.Test.YtnpaidieijlkkaaDoorPileI11
import Derived.Lib.BitFns
import Derived.Lib.ItoaNum
import Derived.BigRegion
import Derived.Test.YtnpaidieijlkkaaDoorPileI3

/- limb.Of, shortQuo. -/
namespace Go.Proofs.YtnpaidieijlkkaaDoor
open Go.RowKit Go.Shelf

theorem keeps_drewN {B : Nat} {W W' : World} (h : KeepsFrom B W W') (q : Nat) : KeepsFrom B W (W'.drewN q) := ⟨h.size, h.same⟩
theorem heap_new_row (w : World) (x : Nat) : Row (w.alloc (.cells #[.int .u64 (x : Int)] 59)) w.heap.size [x] := heap_alloc_new w _

theorem of_any (x : Nat) (hx : x < b64) (w : World) :
    Calls Tryd.prog 124 #[.int .u64 x] w fun e w' => RetN b64 w x e w' := by
  have hR := heap_new_row w x
  have hsl := hR.sl (by simp)
  have HX := Lib.hid hx
  clear hx
  go_enter Tryd.func124, Tryd.ntmps124
  go_wp2_with (go_at_call 90; refine (ltrim_sl _ _ _ _ _ [x] hsl).mono ?_; rintro e w1 ⟨m, rfl, h1, h2, rfl⟩)
  go_ret
  exact retN_trim h1 (fun y hy => by simp at hy; subst hy; exact HX.out) (by simp [V]) ((Below.refl _ _).alloc (Nat.le_refl _) _)

theorem Row.alloc {w : World} {g : Nat} {zs : List Nat} (h : Row w g zs) (o : Obj) : Row (w.alloc o) g zs := (Below.heap_alloc w o g h.lt).trans h
theorem row_kept {A B : World} {g : Nat} {zs : List Nat} {row : Option Nat} (h : Row A g zs) (hg : A.grownBy B row) (hr : ∀ r, row = some r → ∃ o, A.heap[r]? = some o ∧ o.isCells = false) : Row B g zs := by
  refine (hg.block g h.lt ?_).trans h
  intro e
  obtain ⟨o, ho, hc⟩ := hr g e.symm
  unfold Row at h
  rw [h] at ho
  cases ho
  cases hc

theorem of_exact (x : Nat) (w : World) :
    Calls Tryd.prog 124 #[.int .u64 x] w fun e w' => e = .returned (.slice (some ⟨w.heap.size, 0, none⟩) (trimL [x] 1) 1) ∧ w' = w.alloc (.cells #[.int .u64 (x : Int)] 59) := by
  have hR := heap_new_row w x
  have hsl := hR.sl (by simp)
  have ht := ltrim_any (w.alloc (.cells #[.int .u64 (x : Int)] 59)) _ _ _ _ [x] hsl
  obtain ⟨tl, htl⟩ : ∃ tl, trimL [x] 1 = tl := ⟨_, rfl⟩
  simp only [List.length_singleton] at ht
  rw [htl] at ht ⊢
  have HT := Lib.hid ht
  clear ht htl
  go_enter Tryd.func124, Tryd.ntmps124
  go_wp2_with (go_at_call 90; refine HT.out.mono ?_; rintro e w1 ⟨rfl, rfl⟩)
  go_ret
  exact ⟨rfl, rfl⟩

/-- short division, as it goes over the limbs -/
def sqStep (d : Nat) (xs : List Nat) (s : List Nat × Nat) (i : Nat) : List Nat × Nat :=
  (s.1.set i ((s.2 * b64 + xs[i]?.getD 0) / d), (s.2 * b64 + xs[i]?.getD 0) % d)
def sq (d : Nat) (xs : List Nat) (n : Nat) (l : List Nat) : List Nat × Nat := l.foldl (sqStep d xs) (List.replicate n 0, 0)
theorem sq_snoc (d : Nat) (xs : List Nat) (n : Nat) (l : List Nat) (i : Nat) : sq d xs n (l ++ [i]) = sqStep d xs (sq d xs n l) i := by simp [sq]

attribute [local go_sem] Oper.semAt_some

set_option maxRecDepth 100000 in
set_option maxHeartbeats 2000000 in
theorem shortQuo_any (w : World) (B : Nat) (hB : B = w.heap.size) (A : Option Addr) (n c : Nat) (xs : List Nat) (hs : Sl w B A n c xs) (hd : Dg b64 xs) (h1 : n ≤ 17592186044416) (d : Nat) (hd0 : 0 < d) (hdl : d < b64)
    (Ok : Nat → Prop) (hOk0 : Ok 0) (hOk : ∀ r x, Ok r → x < b64 → 1 < n → Ok ((r * b64 + x) % d))
    (hdiv : ∀ (r x : Nat) (W : World), Ok r → x < b64 → Calls Tryd.prog 123 #[.int .u64 r, .int .u64 x, .int .u64 d] W fun e W' => e = .returned (.tuple #[.int .u64 (((r * b64 + x) / d : Nat) : Int), .int .u64 (((r * b64 + x) % d : Nat) : Int)]) ∧ ∃ q, W' = W.drewN q) :
    Calls Tryd.prog 95 #[.slice A n c, .int .u64 d] w fun e w' =>
      ∃ A1 m1 c1 q A2 m2 c2 r, e = .returned (.tuple #[.slice A1 m1 c1, .slice A2 m2 c2]) ∧ Sl w' w'.heap.size A1 m1 c1 q ∧ Sl w' w'.heap.size A2 m2 c2 r ∧ Below w.heap.size w w' ∧
        Nm b64 q (V b64 (sq d xs n (downL n n)).1) ∧ Nm b64 r (sq d xs n (downL n n)).2 := by
  subst hB
  refine (callsIn_wide (n := 9)).1 ?_
  refine callsIn_of_wp_marks Tryd.func95 rfl trivial ?_ rfl
  simp only [Tryd.ntmps95, List.size_toArray, List.length_cons, List.length_nil, Nat.reduceAdd, Nat.reduceSub, Array.replicate_succ, Array.replicate_zero, List.push_toArray, List.append_toArray, List.nil_append, List.cons_append]
  have hlc := hs.cap
  have hmx := hs.max
  obtain ⟨Z, hZ⟩ : ∃ Z : Array Value, Z = (List.map U (List.replicate n 0)).toArray := ⟨_, rfl⟩
  have HZ := Lib.hid hZ
  clear hZ
  gi_wp2_with (gi_at_make; refine wl_make_in rfl _ _ Tryd.underlying56 rfl _ n rfl rfl (by omega) Z HZ.out ?_)
  refine ⟨trivial, (back_in Fence.wide _ trivial rfl _ _ _ _).mono ?_⟩
  rintro e w1 ⟨rfl, rfl⟩
  gi_wp2_with fail
  have b1 := Boxed.new w 59 (.int .u64 (d : Int))
  have b2 := Boxed.new (w.alloc (.cells #[.int .u64 (d : Int)] 59)) 56 (.slice (some ⟨w.heap.size + 1 + 1, 0, none⟩) n n)
  have r3 : Row (((w.alloc (.cells #[.int .u64 (d : Int)] 59)).alloc (.cells #[.slice (some ⟨w.heap.size + 1 + 1, 0, none⟩) n n] 56)).alloc (.cells Z 59)) (w.heap.size + 1 + 1) (List.replicate n 0) := by
    have h := heap_alloc_new ((w.alloc (.cells #[.int .u64 (d : Int)] 59)).alloc (.cells #[.slice (some ⟨w.heap.size + 1 + 1, 0, none⟩) n n] 56)) (.cells Z 59)
    simp only [World.size_alloc] at h
    unfold Row
    rw [h, HZ.out]
  have b4 := Boxed.new (((w.alloc (.cells #[.int .u64 (d : Int)] 59)).alloc (.cells #[.slice (some ⟨w.heap.size + 1 + 1, 0, none⟩) n n] 56)).alloc (.cells Z 59)) 59 (.int .u64 0)
  have b5 := Boxed.new ((((w.alloc (.cells #[.int .u64 (d : Int)] 59)).alloc (.cells #[.slice (some ⟨w.heap.size + 1 + 1, 0, none⟩) n n] 56)).alloc (.cells Z 59)).alloc (.cells #[.int .u64 0] 59)) 56 (.slice A n c)
  have b1' := (((b1.alloc (.cells #[.slice (some ⟨w.heap.size + 1 + 1, 0, none⟩) n n] 56)).alloc (.cells Z 59)).alloc (.cells #[.int .u64 0] 59)).alloc (.cells #[.slice A n c] 56)
  have b2' := ((b2.alloc (.cells Z 59)).alloc (.cells #[.int .u64 0] 59)).alloc (.cells #[.slice A n c] 56)
  have r3' := (r3.alloc (.cells #[.int .u64 0] 59)).alloc (.cells #[.slice A n c] 56)
  have b4' := b4.alloc (.cells #[.slice A n c] 56)
  have hB0 : Below w.heap.size w (((((w.alloc (.cells #[.int .u64 (d : Int)] 59)).alloc (.cells #[.slice (some ⟨w.heap.size + 1 + 1, 0, none⟩) n n] 56)).alloc (.cells Z 59)).alloc (.cells #[.int .u64 0] 59)).alloc (.cells #[.slice A n c] 56)) :=
    (((((Below.refl _ w).alloc (Nat.le_refl _) _).alloc (by simp) _).alloc (by simp; omega) _).alloc (by simp; omega) _).alloc (by simp; omega) _
  obtain ⟨W0, hW0⟩ : ∃ W0, (((((w.alloc (.cells #[.int .u64 (d : Int)] 59)).alloc (.cells #[.slice (some ⟨w.heap.size + 1 + 1, 0, none⟩) n n] 56)).alloc (.cells Z 59)).alloc (.cells #[.int .u64 0] 59)).alloc (.cells #[.slice A n c] 56)) = W0 := ⟨_, rfl⟩
  have hsz : W0.heap.size = w.heap.size + 5 := by rw [← hW0]; simp
  rw [hW0] at b1' b2' r3' b4' b5 hB0 ⊢
  simp only [World.size_alloc] at b1' b2' r3' b4' b5
  have HSZ := Lib.hid hsz
  clear hsz hW0 b1 b2 r3 b4
  have hsx := hs.below hB0
  refine wpIn_rangeFunc_ownG rfl (by omega) (gf := 136) (lb := #[.pointer (some ⟨w.heap.size + 1 + 1 + 1 + 1, 0, none⟩)]) rfl trivial (enters_of Tryd.func136 (by kernel_rfl) rfl)
    (back_stops Fence.wide _ trivial rfl (by omega) (w.heap.size + 1 + 1 + 1 + 1) w.heap.size n c A xs W0 (by rw [HSZ.out]; omega) (by rw [HSZ.out]; omega) b5.cell hsx) KpB.trans (KpB.put (by rw [HSZ.out]; omega) (by rw [HSZ.out]; omega)) (Below.refl _ _) (fun _ => rfl)
    (fun pre W => (∃ zs r, sq d xs n (pre.map (·.1)) = (zs, r) ∧ zs.length = n ∧ Dg b64 zs ∧ r < d ∧ (pre.length < n → Ok r) ∧ Row W (w.heap.size + 1 + 1) zs ∧ W.cell? ⟨w.heap.size, 0, none⟩ = some (.int .u64 (d : Int)) ∧ W.cell? ⟨w.heap.size + 1, 0, none⟩ = some (.slice (some ⟨w.heap.size + 1 + 1, 0, none⟩) n n) ∧ W.frozen? ⟨w.heap.size + 1, 0, none⟩ = false ∧
      W.cell? ⟨w.heap.size + 1 + 1 + 1, 0, none⟩ = some (.int .u64 (r : Int)) ∧ W.frozen? ⟨w.heap.size + 1 + 1 + 1, 0, none⟩ = false) ∧ Below w.heap.size w W)
    (fun _ _ _ => False)
    (OwnFrom.and (Own.from (fun s A B row hs hg hr => by obtain ⟨zs, r, e1, e2, e3, e4, e5, e6, e7, e8, e9, e10, e11⟩ := hs; exact ⟨zs, r, e1, e2, e3, e4, e5, row_kept e6 hg hr, cell_kept e7 hg hr, cell_kept e8 hg hr, (frozen_kept e8 hg hr).trans e9, cell_kept e10 hg hr, (frozen_kept e10 hg hr).trans e11⟩) _) (ownFrom_below (Nat.le_refl _) (by rw [HSZ.out]; omega)))
    (fun _ _ _ _ _ hs _ _ => hs)
    ⟨⟨_, 0, rfl, by simp, dg_zeros b64_pos _, hd0, fun _ => hOk0, r3', b1'.cell, b2'.cell, b2'.frozen, b4'.cell, b4'.frozen⟩, hB0⟩
    (fun x => { tmps := #[.slice A n c, .int .u64 (d : Int), undef, .pointer (some ⟨w.heap.size, 0, none⟩), .pointer (some ⟨w.heap.size + 1, 0, none⟩), .slice none 0 0, .pointer (some ⟨w.heap.size + 1 + 1 + 1, 0, none⟩), .int .i64 (x.1 : Int), .int .u64 ((xs[x.1]?.getD 0 : Nat) : Int), .slice A n c, .int .i64 (n : Int), .slice (some ⟨w.heap.size + 1 + 1, 0, none⟩) n n, .slice A n c, .func (.func 136) #[] #[.pointer (some ⟨w.heap.size + 1 + 1 + 1 + 1, 0, none⟩)], .int .i64 (x.1 : Int), .int .u64 ((xs[x.1]?.getD 0 : Nat) : Int), undef, undef, undef, undef, undef, undef, undef, undef, undef, undef, undef, undef, undef, undef], defers := [] }) ?assign ?body ?done ?stop
  case assign =>
    intro l x W K hK
    gi_wp2
    exact hK
  case body =>
    rintro l pre x W ⟨⟨zs, r, e1, e2, e3, e4, e5, e6, e7, e8, e9, e10, e11⟩, hB⟩ hpl
    obtain ⟨i, hi⟩ := x
    obtain ⟨xv, hxv⟩ : ∃ xv, xs[i]? = some xv := get_lt (by rw [← hs.len]; exact hi)
    have hxl := hd.get hxv
    have HE1 := Lib.hid e1
    have HE2 := Lib.hid e2
    have HXV := Lib.hid hxv
    dsimp only
    rw [hxv]
    dsimp only [Option.getD_some]
    clear hxv e1 e2
    have hii : (i : Int) < n := by omega
    obtain ⟨old, hold⟩ := get_lt (zs := zs) (k := i) (by rw [HE2.out]; exact hi)
    have hcz := e6.at_ hold
    have hfz := e6.frozen
    clear hold
    have hok := e5 hpl
    obtain ⟨qv, hqv⟩ : ∃ qv, qv = (r * b64 + xv) / d := ⟨_, rfl⟩
    obtain ⟨rv, hrv⟩ : ∃ rv, rv = (r * b64 + xv) % d := ⟨_, rfl⟩
    have hdv : ∀ W : World, Calls Tryd.prog 123 #[.int .u64 r, .int .u64 xv, .int .u64 d] W fun e W' => e = .returned (.tuple #[.int .u64 (qv : Int), .int .u64 (rv : Int)]) ∧ ∃ q, W' = W.drewN q := by
      intro W; rw [hqv, hrv]; exact hdiv r xv W hok hxl
    have HDV := Lib.hid hdv
    have HQV := Lib.hid hqv
    have HRV := Lib.hid hrv
    clear hdv hqv hrv
    have hmx : Tryd.prog.follows .mixedOrders = true := by kernel_rfl
    gi_wp2
    have hgi : w.heap.size + 1 + 1 ≠ w.heap.size := by omega
    refine wpIn_region_inv hmx ?hd
      (fun j => [.slice (some ⟨w.heap.size + 1 + 1, 0, none⟩) n n, .int .i64 (i : Int), .int .u64 (r : Int), .int .u64 (xv : Int), .int .u64 (d : Int), .tuple #[.int .u64 (qv : Int), .int .u64 (rv : Int)], .tuple #[.int .u64 (qv : Int), .int .u64 (rv : Int)], .int .u64 (qv : Int), .int .u64 (rv : Int), .pointer (some ⟨w.heap.size + 1 + 1, i, none⟩)].getD j undef)
      (wor2 W 10 11 ⟨w.heap.size + 1 + 1, i, none⟩ ⟨w.heap.size + 1 + 1 + 1, 0, none⟩ (.int .u64 (qv : Int)) (.int .u64 (rv : Int))) ?hw0 ?hstep ?hend ?hac
    case hd => exact distinct_of (by kernel_rfl)
    case hw0 => exact ⟨1, by rw [wor2_none (by kernel_rfl) (by kernel_rfl)]; rfl⟩
    case hac => exact acyclic_of (by kernel_rfl)
    case hstep =>
      intro L a' hs hdf hcl hold hnew i' hi' oi hoi q0 K hK
      obtain ⟨hnl, o2, ho2, hdep⟩ := mem_ready.1 hi'
      obtain rfl : oi = o2 := Option.some.inj (hoi.symm.trans ho2)
      have hlt : i' < 12 := (Array.getElem?_eq_some_iff.1 hoi).1
      have t3 : a'.tmps.getD 3 undef = .pointer (some ⟨w.heap.size, 0, none⟩) := hold 3 (free_of (by kernel_rfl))
      have t4 : a'.tmps.getD 4 undef = .pointer (some ⟨w.heap.size + 1, 0, none⟩) := hold 4 (free_of (by kernel_rfl))
      have t6 : a'.tmps.getD 6 undef = .pointer (some ⟨w.heap.size + 1 + 1 + 1, 0, none⟩) := hold 6 (free_of (by kernel_rfl))
      have t7 : a'.tmps.getD 7 undef = .int .i64 (i : Int) := hold 7 (free_of (by kernel_rfl))
      have t8 : a'.tmps.getD 8 undef = .int .u64 (xv : Int) := hold 8 (free_of (by kernel_rfl))
      clear hold
      have w1 := (wor2_cell (w := W) (i := 10) (j := 11) (p := ⟨w.heap.size + 1 + 1, i, none⟩) (q := ⟨w.heap.size + 1 + 1 + 1, 0, none⟩) (u := .int .u64 (qv : Int)) (v := .int .u64 (rv : Int)) L (a := ⟨w.heap.size + 1, 0, none⟩) (by simp) (by simp)).trans e8
      have w2 := (wor2_cell (w := W) (i := 10) (j := 11) (p := ⟨w.heap.size + 1 + 1, i, none⟩) (q := ⟨w.heap.size + 1 + 1 + 1, 0, none⟩) (u := .int .u64 (qv : Int)) (v := .int .u64 (rv : Int)) L (a := ⟨w.heap.size, 0, none⟩) (by simp) (by simp)).trans e7
      obtain rfl | rfl | rfl | rfl | rfl | rfl | rfl | rfl | rfl | rfl | rfl | rfl : i' = 0 ∨ i' = 1 ∨ i' = 2 ∨ i' = 3 ∨ i' = 4 ∨ i' = 5 ∨ i' = 6 ∨ i' = 7 ∨ i' = 8 ∨ i' = 9 ∨ i' = 10 ∨ i' = 11 := by omega
      all_goals
        have hoi' := hoi
        simp only [List.getElem?_toArray, List.getElem?_cons_zero, List.getElem?_cons_succ, Option.some.injEq] at hoi'
        subst hoi'
      · rw [wor2_other L (by decide) (by decide)] at hK
        refine in_value hoi rfl (by intro c h; cases h) (fun _ _ => trivial) ?_ (hK q0)
        simp [execOp, Act.eval, t4, w1, go_sem]
      · rw [wor2_other L (by decide) (by decide)] at hK
        refine in_value hoi rfl (by intro c h; cases h) (fun _ _ => trivial) ?_ (hK q0)
        simp [execOp, Act.eval, t7]
      · rw [wor2_other L (by decide) (by decide)] at hK
        have h11 : L.getD 11 false = false := by
          apply Classical.byContradiction
          intro h
          have h2 := hcl 11 _ rfl (by simpa using h) ⟨2, .phase⟩ (by simp) rfl
          rw [unlisted hnl] at h2
          cases h2
        have w3 : (wor2 W 10 11 ⟨w.heap.size + 1 + 1, i, none⟩ ⟨w.heap.size + 1 + 1 + 1, 0, none⟩ (.int .u64 (qv : Int)) (.int .u64 (rv : Int)) L).cell? ⟨w.heap.size + 1 + 1 + 1, 0, none⟩ = some (.int .u64 (r : Int)) := by
          unfold wor2
          rw [h11]
          simp only [Bool.false_eq_true, if_false]
          split
          · rw [World.cell?_setCell_other _ _ _ _ (by simp)]; exact e10
          · exact e10
        refine in_value hoi rfl (by intro c h; cases h) (fun _ _ => trivial) ?_ (hK q0)
        simp [execOp, Act.eval, t6, w3, go_sem]
      · rw [wor2_other L (by decide) (by decide)] at hK
        refine in_value hoi rfl (by intro c h; cases h) (fun _ _ => trivial) ?_ (hK q0)
        simp [execOp, Act.eval, t8]
      · rw [wor2_other L (by decide) (by decide)] at hK
        refine in_value hoi rfl (by intro c h; cases h) (fun _ _ => trivial) ?_ (hK q0)
        simp [execOp, Act.eval, t3, w2, go_sem]
      · rw [wor2_other L (by decide) (by decide)] at hK
        have t19 : a'.tmps.getD 19 undef = .int .u64 (r : Int) := hnew 2 _ 19 rfl rfl (hdep ⟨2, .data⟩ (by simp) rfl) (by simp)
        have t20 : a'.tmps.getD 20 undef = .int .u64 (xv : Int) := hnew 3 _ 20 rfl rfl (hdep ⟨3, .data⟩ (by simp) rfl) (by simp)
        have t21 : a'.tmps.getD 21 undef = .int .u64 (d : Int) := hnew 4 _ 21 rfl rfl (hdep ⟨4, .data⟩ (by simp) rfl) (by simp)
        refine in_call (f := 123) (args := #[.int .u64 (r : Int), .int .u64 (xv : Int), .int .u64 (d : Int)]) hoi rfl (by intro c h; cases h) rfl (fun _ _ => trivial) ?_ (CallsIn.inRound l (callsIn_wide.2 (HDV.out _))) (fun q => by rw [World.drewN_drewN]; exact hK _)
        simp [execOp, Act.eval, t19, t20, t21, resolve, invoke, Deferred.ofValue]
      · rw [wor2_other L (by decide) (by decide)] at hK
        have t22 : a'.tmps.getD 22 undef = .tuple #[.int .u64 (qv : Int), .int .u64 (rv : Int)] := hnew 5 _ 22 rfl rfl (hdep ⟨5, .data⟩ (by simp) rfl) (by simp)
        refine in_value hoi rfl (by intro c h; cases h) (fun _ _ => trivial) ?_ (hK q0)
        simp [execOp, Act.eval, t22]
      · rw [wor2_other L (by decide) (by decide)] at hK
        have t16 : a'.tmps.getD 16 undef = .tuple #[.int .u64 (qv : Int), .int .u64 (rv : Int)] := hnew 6 _ 16 rfl rfl (hdep ⟨6, .data⟩ (by simp) rfl) (by simp)
        refine in_value hoi rfl (by intro c h; cases h) (fun _ _ => trivial) ?_ (hK q0)
        simp [execOp, Act.eval, t16, go_sem]
      · rw [wor2_other L (by decide) (by decide)] at hK
        have t16 : a'.tmps.getD 16 undef = .tuple #[.int .u64 (qv : Int), .int .u64 (rv : Int)] := hnew 6 _ 16 rfl rfl (hdep ⟨6, .data⟩ (by simp) rfl) (by simp)
        refine in_value hoi rfl (by intro c h; cases h) (fun _ _ => trivial) ?_ (hK q0)
        simp [execOp, Act.eval, t16, go_sem]
      · rw [wor2_other L (by decide) (by decide)] at hK
        have t17 : a'.tmps.getD 17 undef = .slice (some ⟨w.heap.size + 1 + 1, 0, none⟩) n n := hnew 0 _ 17 rfl rfl (hdep ⟨0, .data⟩ (by simp) rfl) (by simp)
        have t18 : a'.tmps.getD 18 undef = .int .i64 (i : Int) := hnew 1 _ 18 rfl rfl (hdep ⟨1, .data⟩ (by simp) rfl) (by simp)
        refine in_value hoi rfl (by intro c h; cases h) (fun _ _ => trivial) ?_ (hK q0)
        simp [execOp, Act.eval, t17, t18, go_sem, hii]
      · have h10 := unlisted hnl
        have h11 : L.getD 11 false = false := by
          apply Classical.byContradiction
          intro h
          have h2 := hcl 11 _ rfl (by simpa using h) ⟨10, .chain⟩ (by simp) rfl
          rw [h10] at h2
          cases h2
        have t25 : a'.tmps.getD 25 undef = .pointer (some ⟨w.heap.size + 1 + 1, i, none⟩) := hnew 9 _ 25 rfl rfl (hdep ⟨9, .data⟩ (by simp) rfl) (by simp)
        have t23 : a'.tmps.getD 23 undef = .int .u64 (qv : Int) := hnew 7 _ 23 rfl rfl (hdep ⟨7, .data⟩ (by simp) rfl) (by simp)
        rw [wor2_first (getD_set_self L (by rw [hs]; decide)) (by rw [getD_set_other L (by decide)]; exact h11)] at hK
        rw [wor2_none h10 h11]
        have hcz' : W.cell? ⟨w.heap.size + 1 + 1, i, none⟩ = some (.int .u64 (old : Int)) := hcz
        have hfz' : W.frozen? ⟨w.heap.size + 1 + 1, i, none⟩ = false := hfz i
        refine in_skip hoi rfl (by intro c h; cases h) (fun _ _ => trivial) ?_ (hK q0)
        simp [execOp, Act.eval, t25, t23, go_sem, stored, hcz', hfz']
        rfl
      · have h11 := unlisted hnl
        have h10 : L.getD 10 false = true := (hdep ⟨10, .chain⟩ (by simp) rfl)
        have t24 : a'.tmps.getD 24 undef = .int .u64 (rv : Int) := hnew 8 _ 24 rfl rfl (hdep ⟨8, .data⟩ (by simp) rfl) (by simp)
        rw [wor2_both (getD_set_self L (by rw [hs]; decide))] at hK
        rw [wor2_first h10 h11]
        have hcr' : (W.setCell ⟨w.heap.size + 1 + 1, i, none⟩ (.int .u64 (qv : Int))).cell? ⟨w.heap.size + 1 + 1 + 1, 0, none⟩ = some (.int .u64 (r : Int)) := by
          rw [World.cell?_setCell_other _ _ _ _ (by simp)]; exact e10
        have hfr' : (W.setCell ⟨w.heap.size + 1 + 1, i, none⟩ (.int .u64 (qv : Int))).frozen? ⟨w.heap.size + 1 + 1 + 1, 0, none⟩ = false := by
          rw [World.frozen?_setCell]; exact e11
        refine in_skip hoi rfl (by intro c h; cases h) (fun _ _ => trivial) ?_ (hK q0)
        simp [execOp, Act.eval, t6, t24, go_sem, stored, hcr', hfr']
        rfl
    case hend =>
      intro L q hL
      rw [wor2_both (hL 11 (by decide))]
      generalize wrote _ _ _ _ _ = TT
      gi_wp2
      have hB2 : Below w.heap.size W ((W.setCell ⟨w.heap.size + 1 + 1, i, none⟩ (.int .u64 (qv : Int))).setCell ⟨w.heap.size + 1 + 1 + 1, 0, none⟩ (.int .u64 (rv : Int))) :=
        ((Below.refl _ W).setCell (p := ⟨w.heap.size + 1 + 1, i, none⟩) (by show _ ≤ w.heap.size + 1 + 1; omega) _).setCell (p := ⟨w.heap.size + 1 + 1 + 1, 0, none⟩) (by show _ ≤ w.heap.size + 1 + 1 + 1; omega) _
      have hqb : qv < b64 := by
        rw [HQV.out]
        apply Nat.div_lt_of_lt_mul
        have h1 : (r + 1) * b64 ≤ d * b64 := Nat.mul_le_mul_right _ e4
        rw [Nat.add_mul, Nat.one_mul] at h1
        omega
      refine ⟨keeps_drewN (((KeepsOthers.setCell W ⟨w.heap.size + 1 + 1, i, none⟩ (.int .u64 (qv : Int))).trans (KeepsOthers.setCell _ ⟨w.heap.size + 1 + 1 + 1, 0, none⟩ (.int .u64 (rv : Int)))).from _) _, ⟨below_drewN hB2 _, ?_⟩, ⟨zs.set i qv, rv, ?_, by simp [HE2.out], e3.set _ hqb, by rw [HRV.out]; exact Nat.mod_lt _ hd0, fun hl => by rw [HRV.out]; exact hOk r xv hok hxl (by simp at hl; omega), ?_, ?_, ?_, ?_, ?_, ?_⟩, hB.trans (below_drewN hB2 _)⟩
      · rw [World.heap_drewN, Below.heap_setCell _ _ _ _ (by show _ ≠ w.heap.size + 1 + 1 + 1; omega), Below.heap_setCell _ _ _ _ (by show _ ≠ w.heap.size + 1 + 1; omega)]
      · rw [List.map_append, List.map_singleton, sq_snoc, HE1.out]
        unfold sqStep
        simp only [HXV.out, Option.getD_some]
        rw [← HQV.out, ← HRV.out]
      · exact (Row.set (w := W) e6 i qv).far (p := ⟨w.heap.size + 1 + 1 + 1, 0, none⟩) (by show _ ≠ w.heap.size + 1 + 1 + 1; omega) _
      · rw [World.cell?_drewN, World.cell?_setCell_other _ _ _ _ (by simp), World.cell?_setCell_other _ _ _ _ (by simp)]; exact e7
      · rw [World.cell?_drewN, World.cell?_setCell_other _ _ _ _ (by simp), World.cell?_setCell_other _ _ _ _ (by simp)]; exact e8
      · rw [World.frozen?_drewN, World.frozen?_setCell, World.frozen?_setCell]; exact e9
      · rw [World.cell?_drewN]; exact World.cell?_setCell_same' _ _ _ (by rw [World.cell?_setCell_other _ _ _ _ (by simp)]; rw [e10]; rfl)
      · rw [World.frozen?_drewN, World.frozen?_setCell, World.frozen?_setCell]; exact e11
  case done =>
    rintro D ds W hD hds ⟨⟨zs, r, e1, e2, e3, e4, e5, e6, e7, e8, e9, e10, e11⟩, hB⟩ hK
    rw [hds] at e1
    have HE1 := Lib.hid e1
    have HE2 := Lib.hid e2
    have hrl : r < b64 := by omega
    clear e1 e2 hds
    have hmx : Tryd.prog.follows .mixedOrders = true := by kernel_rfl
    have hsl := e6.sl (by rw [HE2.out]; omega)
    rw [HE2.out] at hsl
    have hsl2 : Sl W.drew W.heap.size (some ⟨w.heap.size + 1 + 1, 0, none⟩) n n zs := hsl
    have hlt1 : w.heap.size + 1 < W.heap.size := by have := hB.size; have := e6.lt; omega
    gi_wp2
    have hDlt : D < W.heap.size := (Array.getElem?_eq_some_iff.1 hK).1
    have q2 : (W.alloc (.cells #[.int .u64 (r : Int)] 59)).cell? ⟨w.heap.size + 1, 0, none⟩ = some (.slice (some ⟨w.heap.size + 1 + 1, 0, none⟩) n n) := (World.cell?_alloc_lt _ _ _ hlt1).trans e8
    have q3 : (W.alloc (.cells #[.int .u64 (r : Int)] 59)).frozen? ⟨w.heap.size + 1, 0, none⟩ = false := ((Below.refl W.heap.size W).alloc (Nat.le_refl _) _).frozen (p := ⟨w.heap.size + 1, 0, none⟩) hlt1 |>.trans e9
    have hKF : ((W.drew.alloc (.cells #[.int .u64 (r : Int)] 59)).setCell ⟨w.heap.size + 1, 0, none⟩ (.slice (some ⟨w.heap.size + 1 + 1, 0, none⟩) (trimL zs n) n)).heap[D]? = some (.deferred (some [])) :=
      (KeepsOthers.setCell _ _ _).same D _ ((Below.heap_alloc W.drew _ D hDlt).trans hK) rfl
    have rowF := ((Row.alloc (w := W.drew) e6 (.cells #[.int .u64 (r : Int)] 59))).far (p := ⟨w.heap.size + 1, 0, none⟩) (by show w.heap.size + 1 + 1 ≠ w.heap.size + 1; omega) (.slice (some ⟨w.heap.size + 1 + 1, 0, none⟩) (trimL zs n) n)
    have rowR := (heap_new_row W.drew r).far (p := ⟨w.heap.size + 1, 0, none⟩) (by show W.heap.size ≠ w.heap.size + 1; omega) (.slice (some ⟨w.heap.size + 1 + 1, 0, none⟩) (trimL zs n) n)
    have cellF := World.cell?_setCell_same' (W.drew.alloc (.cells #[.int .u64 (r : Int)] 59)) ⟨w.heap.size + 1, 0, none⟩ (.slice (some ⟨w.heap.size + 1 + 1, 0, none⟩) (trimL zs n) n) (by rw [show (W.drew.alloc (.cells #[.int .u64 (r : Int)] 59)).cell? _ = _ from q2]; rfl)
    have belF : Below w.heap.size w ((W.drew.alloc (.cells #[.int .u64 (r : Int)] 59)).setCell ⟨w.heap.size + 1, 0, none⟩ (.slice (some ⟨w.heap.size + 1 + 1, 0, none⟩) (trimL zs n) n)) :=
      (hB.drew.alloc (by have := hB.size; exact this) _).setCell (p := ⟨w.heap.size + 1, 0, none⟩) (by show _ ≤ w.heap.size + 1; omega) _
    have FIN : ∀ {WF : World}, WF.heap[D]? = some (.deferred (some [])) → Row WF (w.heap.size + 1 + 1) zs → Row WF W.drew.heap.size [r] → Below w.heap.size w WF → ∃ A1 m1 c1 q A2 m2 c2 r', Ending.returned (.tuple #[.slice (some ⟨w.heap.size + 1 + 1, 0, none⟩) (trimL zs n) n, .slice (some ⟨W.drew.heap.size, 0, none⟩) (trimL [r] 1) 1]) = .returned (.tuple #[.slice A1 m1 c1, .slice A2 m2 c2]) ∧
        Sl (WF.putObj D (.deferred none)) (WF.putObj D (.deferred none)).heap.size A1 m1 c1 q ∧ Sl (WF.putObj D (.deferred none)) (WF.putObj D (.deferred none)).heap.size A2 m2 c2 r' ∧ Below w.heap.size w (WF.putObj D (.deferred none)) ∧
        Nm b64 q (V b64 (sq d xs n (downL n n)).1) ∧ Nm b64 r' (sq d xs n (downL n n)).2 := by
      intro WF k1 k2 k3 k4
      have g := grownBy_putObj' WF D (.deferred none)
      have gr : ∀ r', some D = some r' → ∃ o, WF.heap[r']? = some o ∧ o.isCells = false := fun r' e => by cases e; exact ⟨_, k1, rfl⟩
      have z1 := sl_trim ((row_kept k2 g gr).sl (by rw [HE2.out]; omega))
      have z2 := sl_trim ((row_kept k3 g gr).sl (by simp))
      rw [HE2.out] at z1
      refine ⟨_, _, _, _, _, _, _, _, rfl, z1, z2, k4.trans (belowK_b (w := W0) (by rw [HSZ.out]; omega) _ D _ _ hD k1 rfl rfl), ?_, ?_⟩
      · rw [HE1.out]; exact trimmed_nm e3
      · rw [HE1.out]
        have := trimmed_nm (B := b64) (xs := [r]) (fun y hy => by simp at hy; subst hy; exact hrl)
        simpa [V] using this
    refine wpIn_region_any hmx ?_
    show wpAnyIn _ _ _ _ _ _ 6 _ _ _
    refine any2 (i := 0) (j := 2) (by kernel_rfl) ?_ ?_
    · skip
      refine in_value (v := .slice (some ⟨w.heap.size + 1 + 1, 0, none⟩) n n) (w' := W.drew) rfl rfl (by intro c h; cases h) (fun _ _ => trivial) (by simp [execOp, Act.eval, go_sem, e8]) ?_
      refine any2 (i := 1) (j := 2) (by kernel_rfl) ?_ ?_
      · skip
        refine in_call_any (f := 90) (args := #[.slice (some ⟨w.heap.size + 1 + 1, 0, none⟩) n n]) rfl rfl (by intro c h; cases h) rfl (fun _ _ => trivial) (by simp [execOp, Act.eval, resolve, invoke, Deferred.ofValue, Act.put, go_sem]) (callsIn_wide.2 ((ltrim_any W.drew _ _ _ _ zs hsl2).mono ?_))
        rintro e w1 ⟨rfl, rfl⟩
        refine ⟨_, rfl, ?_⟩
        refine any1 (i := 2) (by kernel_rfl) ?_
        refine in_value (v := .int .u64 (r : Int)) (w' := W.drew) rfl rfl (by intro c h; cases h) (fun _ _ => trivial) (by simp [execOp, Act.eval, Act.put, go_sem, e10]) ?_
        refine any1 (i := 3) (by kernel_rfl) ?_
        refine in_call_any (f := 124) (args := #[.int .u64 (r : Int)]) rfl rfl (by intro c h; cases h) rfl (fun _ _ => trivial) (by simp [execOp, Act.eval, resolve, invoke, Deferred.ofValue, Act.put, go_sem]) (callsIn_wide.2 ((of_exact r W.drew).mono ?_))
        rintro e w2 ⟨rfl, rfl⟩
        refine ⟨_, rfl, ?_⟩
        refine any1 (i := 4) (by kernel_rfl) ?_
        refine in_skip (w' := (W.drew.alloc (.cells #[.int .u64 (r : Int)] 59)).setCell ⟨w.heap.size + 1, 0, none⟩ (.slice (some ⟨w.heap.size + 1 + 1, 0, none⟩) (trimL zs n) n)) rfl rfl (by intro c h; cases h) (fun _ _ => trivial) (by simp [execOp, Act.eval, Act.put, go_sem, stored, q2, q3]) ?_
        refine any1 (i := 5) (by kernel_rfl) ?_
        refine in_value (v := .slice (some ⟨W.drew.heap.size, 0, none⟩) (trimL [r] 1) 1) (w' := (W.drew.alloc (.cells #[.int .u64 (r : Int)] 59)).setCell ⟨w.heap.size + 1, 0, none⟩ (.slice (some ⟨w.heap.size + 1 + 1, 0, none⟩) (trimL zs n) n)) rfl rfl (by intro c h; cases h) (fun _ _ => trivial) (by simp [execOp, Act.eval, Act.put]) ?_
        refine any0 (by kernel_rfl) ?_
        generalize hWF : (W.drew.alloc (.cells #[.int .u64 (r : Int)] 59)).setCell ⟨w.heap.size + 1, 0, none⟩ (.slice (some ⟨w.heap.size + 1 + 1, 0, none⟩) (trimL zs n) n) = WF
        rw [hWF] at hKF rowF rowR cellF belF
        clear hWF
        gi_wp2
        refine ⟨by simp, .inl ⟨_, _, rfl, run_takeDeferred hKF, ?_⟩⟩
        refine ⟨.tuple #[.slice (some ⟨w.heap.size + 1 + 1, 0, none⟩) (trimL zs n) n, .slice (some ⟨W.drew.heap.size, 0, none⟩) (trimL [r] 1) 1], ?_, FIN hKF rowF rowR belF⟩
        have hc5 := cell_kept cellF (grownBy_putObj' _ D (.deferred none)) (fun r e => by cases e; exact ⟨_, hKF, rfl⟩)
        simp [results, Tryd.f95, go_sem, hc5]
      · skip
        refine in_value (v := .int .u64 (r : Int)) (w' := W.drew) rfl rfl (by intro c h; cases h) (fun _ _ => trivial) (by simp [execOp, Act.eval, Act.put, go_sem, e10]) ?_
        refine any1 (i := 1) (by kernel_rfl) ?_
        refine in_call_any (f := 90) (args := #[.slice (some ⟨w.heap.size + 1 + 1, 0, none⟩) n n]) rfl rfl (by intro c h; cases h) rfl (fun _ _ => trivial) (by simp [execOp, Act.eval, resolve, invoke, Deferred.ofValue, Act.put, go_sem]) (callsIn_wide.2 ((ltrim_any W.drew _ _ _ _ zs hsl2).mono ?_))
        rintro e w1 ⟨rfl, rfl⟩
        refine ⟨_, rfl, ?_⟩
        refine any1 (i := 3) (by kernel_rfl) ?_
        refine in_call_any (f := 124) (args := #[.int .u64 (r : Int)]) rfl rfl (by intro c h; cases h) rfl (fun _ _ => trivial) (by simp [execOp, Act.eval, resolve, invoke, Deferred.ofValue, Act.put, go_sem]) (callsIn_wide.2 ((of_exact r W.drew).mono ?_))
        rintro e w2 ⟨rfl, rfl⟩
        refine ⟨_, rfl, ?_⟩
        refine any1 (i := 4) (by kernel_rfl) ?_
        refine in_skip (w' := (W.drew.alloc (.cells #[.int .u64 (r : Int)] 59)).setCell ⟨w.heap.size + 1, 0, none⟩ (.slice (some ⟨w.heap.size + 1 + 1, 0, none⟩) (trimL zs n) n)) rfl rfl (by intro c h; cases h) (fun _ _ => trivial) (by simp [execOp, Act.eval, Act.put, go_sem, stored, q2, q3]) ?_
        refine any1 (i := 5) (by kernel_rfl) ?_
        refine in_value (v := .slice (some ⟨W.drew.heap.size, 0, none⟩) (trimL [r] 1) 1) (w' := (W.drew.alloc (.cells #[.int .u64 (r : Int)] 59)).setCell ⟨w.heap.size + 1, 0, none⟩ (.slice (some ⟨w.heap.size + 1 + 1, 0, none⟩) (trimL zs n) n)) rfl rfl (by intro c h; cases h) (fun _ _ => trivial) (by simp [execOp, Act.eval, Act.put]) ?_
        refine any0 (by kernel_rfl) ?_
        generalize hWF : (W.drew.alloc (.cells #[.int .u64 (r : Int)] 59)).setCell ⟨w.heap.size + 1, 0, none⟩ (.slice (some ⟨w.heap.size + 1 + 1, 0, none⟩) (trimL zs n) n) = WF
        rw [hWF] at hKF rowF rowR cellF belF
        clear hWF
        gi_wp2
        refine ⟨by simp, .inl ⟨_, _, rfl, run_takeDeferred hKF, ?_⟩⟩
        refine ⟨.tuple #[.slice (some ⟨w.heap.size + 1 + 1, 0, none⟩) (trimL zs n) n, .slice (some ⟨W.drew.heap.size, 0, none⟩) (trimL [r] 1) 1], ?_, FIN hKF rowF rowR belF⟩
        have hc5 := cell_kept cellF (grownBy_putObj' _ D (.deferred none)) (fun r e => by cases e; exact ⟨_, hKF, rfl⟩)
        simp [results, Tryd.f95, go_sem, hc5]
    · skip
      refine in_value (v := .int .u64 (r : Int)) (w' := W.drew) rfl rfl (by intro c h; cases h) (fun _ _ => trivial) (by simp [execOp, Act.eval, go_sem, e10]) ?_
      refine any1 (i := 0) (by kernel_rfl) ?_
      refine in_value (v := .slice (some ⟨w.heap.size + 1 + 1, 0, none⟩) n n) (w' := W.drew) rfl rfl (by intro c h; cases h) (fun _ _ => trivial) (by simp [execOp, Act.eval, Act.put, go_sem, e8]) ?_
      refine any1 (i := 1) (by kernel_rfl) ?_
      refine in_call_any (f := 90) (args := #[.slice (some ⟨w.heap.size + 1 + 1, 0, none⟩) n n]) rfl rfl (by intro c h; cases h) rfl (fun _ _ => trivial) (by simp [execOp, Act.eval, resolve, invoke, Deferred.ofValue, Act.put, go_sem]) (callsIn_wide.2 ((ltrim_any W.drew _ _ _ _ zs hsl2).mono ?_))
      rintro e w1 ⟨rfl, rfl⟩
      refine ⟨_, rfl, ?_⟩
      refine any1 (i := 3) (by kernel_rfl) ?_
      refine in_call_any (f := 124) (args := #[.int .u64 (r : Int)]) rfl rfl (by intro c h; cases h) rfl (fun _ _ => trivial) (by simp [execOp, Act.eval, resolve, invoke, Deferred.ofValue, Act.put, go_sem]) (callsIn_wide.2 ((of_exact r W.drew).mono ?_))
      rintro e w2 ⟨rfl, rfl⟩
      refine ⟨_, rfl, ?_⟩
      refine any1 (i := 4) (by kernel_rfl) ?_
      refine in_skip (w' := (W.drew.alloc (.cells #[.int .u64 (r : Int)] 59)).setCell ⟨w.heap.size + 1, 0, none⟩ (.slice (some ⟨w.heap.size + 1 + 1, 0, none⟩) (trimL zs n) n)) rfl rfl (by intro c h; cases h) (fun _ _ => trivial) (by simp [execOp, Act.eval, Act.put, go_sem, stored, q2, q3]) ?_
      refine any1 (i := 5) (by kernel_rfl) ?_
      refine in_value (v := .slice (some ⟨W.drew.heap.size, 0, none⟩) (trimL [r] 1) 1) (w' := (W.drew.alloc (.cells #[.int .u64 (r : Int)] 59)).setCell ⟨w.heap.size + 1, 0, none⟩ (.slice (some ⟨w.heap.size + 1 + 1, 0, none⟩) (trimL zs n) n)) rfl rfl (by intro c h; cases h) (fun _ _ => trivial) (by simp [execOp, Act.eval, Act.put]) ?_
      refine any0 (by kernel_rfl) ?_
      generalize hWF : (W.drew.alloc (.cells #[.int .u64 (r : Int)] 59)).setCell ⟨w.heap.size + 1, 0, none⟩ (.slice (some ⟨w.heap.size + 1 + 1, 0, none⟩) (trimL zs n) n) = WF
      rw [hWF] at hKF rowF rowR cellF belF
      clear hWF
      gi_wp2
      refine ⟨by simp, .inl ⟨_, _, rfl, run_takeDeferred hKF, ?_⟩⟩
      refine ⟨.tuple #[.slice (some ⟨w.heap.size + 1 + 1, 0, none⟩) (trimL zs n) n, .slice (some ⟨W.drew.heap.size, 0, none⟩) (trimL [r] 1) 1], ?_, FIN hKF rowF rowR belF⟩
      have hc5 := cell_kept cellF (grownBy_putObj' _ D (.deferred none)) (fun r e => by cases e; exact ⟨_, hKF, rfl⟩)
      simp [results, Tryd.f95, go_sem, hc5]
  case stop =>
    rintro D c pre W _ _ h _
    exact h.elim
end Go.Proofs.YtnpaidieijlkkaaDoor

/- math/bits.Div64 at 0; limb.Quo of one limb by one. -/
namespace Go.Proofs.YtnpaidieijlkkaaDoor
open Go.RowKit

set_option maxRecDepth 100000 in
set_option maxHeartbeats 800000 in
theorem div64_zero (x d : Nat) (hx : x < b64) (hd0 : 0 < d) (w : World) :
    Calls Tryd.prog 123 #[.int .u64 ((0 : Nat) : Int), .int .u64 x, .int .u64 d] w fun e w' => e = .returned (.tuple #[.int .u64 ((x / d : Nat) : Int), .int .u64 ((x % d : Nat) : Int)]) ∧ ∃ q, w' = w.drewN q := by
  have h1 : ((d : Int) == 0) = false := by simp; omega
  have h2 : ¬ (d : Int) ≤ ((0 : Nat) : Int) := by omega
  have h2' : ¬ (d : Int) ≤ 0 := by omega
  have h3 : (1 : Int) ≤ d := by omega
  go_enter Tryd.func123, Tryd.ntmps123
  go_wp2
  have h4 : (x : Int) < 18446744073709551616 := by have := lt64.1 hx; omega
  have h7 : (0 : Int) ≤ (x : Int) / d := Int.ediv_nonneg (by omega) (by omega)
  have h5 : (x : Int) / d < 18446744073709551616 := Int.lt_of_le_of_lt (Int.ediv_le_self _ (by omega)) h4
  go_quiet (fail)
  go_wp2
  go_ret2
  exact ⟨rfl, _, rfl⟩

/-- two slices and true -/
def RetQ (w : World) (N M : Nat) (e : Ending) (w' : World) : Prop :=
  ∃ q A1 n1 c1 r A2 n2 c2, e = .returned (.tuple #[.slice A1 n1 c1, .slice A2 n2 c2, .bool true]) ∧ Sl w' w'.heap.size A1 n1 c1 q ∧ Sl w' w'.heap.size A2 n2 c2 r ∧ Below w.heap.size w w' ∧ Nm b64 q N ∧ Nm b64 r M

theorem trimmed_self {B : Nat} {xs : List Nat} {n : Nat} (hB : 1 < B) (h : Nm B xs n) : trimmed xs = xs := nm_unique hB (h.2.2 ▸ trimmed_nm h.1) h

set_option maxRecDepth 100000 in
set_option maxHeartbeats 1600000 in
theorem quo_one (w : World) (A1 : Option Addr) (c1 : Nat) (x : Nat) (hs1 : Sl w w.heap.size A1 1 c1 [x]) (A2 : Option Addr) (c2 : Nat) (d : Nat) (hs2 : Sl w w.heap.size A2 1 c2 [d]) (hx : x < b64) (hd : d < b64) (hd0 : 0 < d) (hle : d ≤ x) :
    Calls Tryd.prog 68 #[.slice A1 1 c1, .slice A2 1 c2] w fun e w' => RetQ w (x / d) (x % d) e w' := by
  have nx : Nm b64 [x] x := ⟨fun y hy => by simp at hy; omega, fun y hy => by simp at hy; omega, by simp [V]⟩
  have nd : Nm b64 [d] d := ⟨fun y hy => by simp at hy; omega, fun y hy => by simp at hy; omega, by simp [V]⟩
  have t1 := trimmed_self (by decide) nx
  have t2 := trimmed_self (by decide) nd
  have hcm : ¬ ncmp (V b64 [x]) (V b64 [d]) < 0 := by
    rw [nx.2.2, nd.2.2]; unfold ncmp; rw [if_neg (by omega)]; split <;> omega
  obtain ⟨cv, hcv⟩ : ∃ cv, ncmp (V b64 [x]) (V b64 [d]) = cv := ⟨_, rfl⟩
  rw [hcv] at hcm
  have HCV := Lib.hid hcv
  have T1 := Lib.hid t1
  have T2 := Lib.hid t2
  have NX := Lib.hid nx
  have ND := Lib.hid nd
  clear hcv t1 t2 nx nd
  obtain ⟨b, off, y, rfl, hb, hy, hc⟩ := hs2.at_ (k := 0) (by decide)
  simp at hy
  subst hy
  go_enter Tryd.func68, Tryd.ntmps68
  go_wp2_with fail
  refine (ltrim_sl w _ _ _ _ [x] hs1).mono ?_; rintro e w1 ⟨m1, rfl, h3, h4, rfl⟩
  have hm1 : m1 = 1 := by rw [h3.len, T1.out]; rfl
  subst hm1
  rw [T1.out] at h3
  go_wp2_with fail
  refine (ltrim_sl w _ _ _ _ [d] hs2).mono ?_; rintro e w1 ⟨m2, rfl, h5, h6, rfl⟩
  have hm2 : m2 = 1 := by rw [h5.len, T2.out]; rfl
  subst hm2
  rw [T2.out] at h5
  go_wp2_with fail
  refine (lcmp_any w _ _ _ [x] h3 _ _ _ [d] h5 NX.out.1 ND.out.1).mono ?_; rw [HCV.out]; rintro e w1 ⟨rfl, hb1⟩
  have hc1 : w1.cell? ⟨b, off, none⟩ = some (.int .u64 (d : Int)) := (hb1.cell (p := ⟨b, off, none⟩) hb).trans (by simpa using hc)
  go_wp2_with fail
  refine (shortQuo_any w1 _ rfl _ _ _ [x] (h3.later hb1 (Nat.le_refl _)) NX.out.1 (by decide) d hd0 hd (fun r => r = 0) rfl (fun r x _ _ h => absurd h (by decide)) (fun r x W hr hx => by subst hr; simpa using div64_zero x d hx hd0 W)).mono ?_
  rintro e w2 ⟨A3, m3, c3, q, A4, m4, c4, r, rfl, k1, k2, k3, k4, k5⟩
  go_wp2
  go_ret3
  refine ⟨q, _, _, _, r, _, _, _, rfl, k1, k2, hb1.trans (k3.mono hb1.size), ?_, ?_⟩
  · simpa [sq, sqStep, downL, V, List.range_succ] using k4
  · simpa [sq, sqStep, downL, V, List.range_succ] using k5
end Go.Proofs.YtnpaidieijlkkaaDoor

/- limb.Bits. -/
namespace Go.Proofs.YtnpaidieijlkkaaDoor
open Go.RowKit

/-- k is the least with n < 2^k -/
def IsBits (n k : Nat) : Prop := n < 2 ^ k ∧ (k ≠ 0 → 2 ^ (k - 1) ≤ n)
theorem IsBits.unique {n k l : Nat} (h : IsBits n k) (h' : IsBits n l) : k = l := by
  rcases Nat.lt_trichotomy k l with hl | hl | hl
  · have h1 := h'.2 (by omega)
    have h2 : 2 ^ k ≤ 2 ^ (l - 1) := Nat.pow_le_pow_right (by decide) (by omega)
    have := h.1
    omega
  · exact hl
  · have h1 := h.2 (by omega)
    have h2 : 2 ^ l ≤ 2 ^ (k - 1) := Nat.pow_le_pow_right (by decide) (by omega)
    have := h'.1
    omega
theorem b64_pow (m : Nat) : b64 ^ m = 2 ^ (64 * m) := by
  rw [show b64 = 2 ^ 64 from rfl, ← Nat.pow_mul]
theorem bits_top {xs : List Nat} {m x N : Nat} (h : Nm b64 xs N) (hm : xs.length = m + 1) (hx : xs[m]? = some x) : IsBits N (m * 64 + Lib.bitLen x) ∧ Lib.bitLen x ≤ 64 := by
  have hxl := h.1.get hx
  have hx0 : x ≠ 0 := by
    refine h.2.1 x ?_
    rw [List.getLast?_eq_getElem?, hm]
    simpa using hx
  obtain ⟨c1, c2, c3⟩ := Lib.bitLenAux_bounds 64 x hxl hx0
  have hN : N = V b64 (xs.take m) + b64 ^ m * x := by
    rw [← h.2.2, ← V_take_succ hx, List.take_of_length_le (by omega)]
  have hlt := V_lt (xs.take m) (h.1.take m)
  rw [List.length_take, Nat.min_eq_left (by omega)] at hlt
  rw [b64_pow] at hN hlt
  have hle : Lib.bitLen x ≤ 64 := Lib.bitLen_le x 64 (Nat.le_refl _) hxl
  obtain ⟨k, hk⟩ : ∃ k, Lib.bitLen x = k := ⟨_, rfl⟩
  have hk' : Lib.bitLenAux 64 x = k := hk
  rw [hk'] at c1 c2 c3
  rw [hk] at hle ⊢
  refine ⟨⟨?_, fun _ => ?_⟩, hle⟩
  · rw [Nat.mul_comm m, Nat.pow_add]
    have := Nat.mul_le_mul_left (2 ^ (64 * m)) c3
    rw [Nat.mul_succ] at this
    omega
  · rw [show m * 64 + k - 1 = 64 * m + (k - 1) by omega, Nat.pow_add]
    have := Nat.mul_le_mul_left (2 ^ (64 * m)) c2
    omega

theorem ret_i64 {a b : Int} (h : a = b) : Ending.returned (.int .i64 a) = .returned (.int .i64 b) := by rw [h]

set_option maxRecDepth 100000 in
set_option maxHeartbeats 800000 in
theorem bits_any (w : World) (B : Nat) (A : Option Addr) (n c : Nat) (xs : List Nat) (hs : Sl w B A n c xs) (hd : Dg b64 xs) (hn : n ≤ 17592186044416) :
    Calls Tryd.prog 66 #[.slice A n c] w fun e w' => ∃ k : Nat, e = .returned (.int .i64 (k : Int)) ∧ IsBits (V b64 xs) k ∧ w = w' := by
  have hX := trimmed_nm hd
  have HX := Lib.hid hX
  clear hX
  go_enter Tryd.func66, Tryd.ntmps66
  go_wp2_with fail
  refine (ltrim_sl w B A n c xs hs).mono ?_; rintro e w1 ⟨m, rfl, h3, h4, rfl⟩
  by_cases h0 : m = 0
  · subst h0
    go_wp2
    go_ret
    refine ⟨0, rfl, ⟨?_, fun h => absurd rfl h⟩, rfl⟩
    have : trimmed xs = [] := List.eq_nil_of_length_eq_zero h3.len.symm
    rw [← HX.out.2.2, this]
    decide
  · obtain ⟨t, rfl⟩ : ∃ t, m = t + 1 := ⟨m - 1, by omega⟩
    obtain ⟨b, off, x, rfl, hb, hx, hc⟩ := h3.at_ (k := t) (by omega)
    have hbt := bits_top HX.out h3.len.symm hx
    have hxl := lt64.1 (HX.out.1.get hx)
    obtain ⟨k, hk⟩ : ∃ k, Lib.bitLen x = k := ⟨_, rfl⟩
    rw [hk] at hbt
    have hk64 := hbt.2
    have HBT := Lib.hid hbt
    have HK := Lib.hid hk
    have HXX := Lib.hid hx
    have HXL := Lib.hid hxl
    clear hbt hk hx hxl
    have hm0 : (((t + 1 : Nat) : Int) == 0) = false := by simp; omega
    go_wp2_with (go_at_call 91; refine (Tryd.bits_Len64 (x : Int) _ (by omega) (by have := HXL.out; omega)).mono ?_; rw [Int.toNat_natCast, HK.out]; rintro e w2 ⟨rfl, rfl⟩)
    go_ret
    exact ⟨t * 64 + k, ret_i64 (by omega), HBT.out.1, rfl⟩
end Go.Proofs.YtnpaidieijlkkaaDoor

/- Words for memory: slices of bytes that the call makes. -/
namespace Go.Proofs.YtnpaidieijlkkaaDoor
open Go.RowKit

abbrev U8 (x : Nat) : Value := .int .u8 (x : Int)
/-- block g is, whole, the bytes zs -/
def Row8 (w : World) (g : Nat) (zs : List Nat) : Prop := w.heap[g]? = some (.cells (zs.map U8).toArray 5 (0, 0))
theorem Row8.lt {w : World} {g : Nat} {zs : List Nat} (h : Row8 w g zs) : g < w.heap.size := (Array.getElem?_eq_some_iff.1 h).1
theorem Row8.at_ {w : World} {g : Nat} {zs : List Nat} (h : Row8 w g zs) {i x : Nat} (hx : zs[i]? = some x) : w.cell? ⟨g, i, none⟩ = some (.int .u8 (x : Int)) := by
  rw [cell_of_row w g i _ _ (0, 0) h]; simp [hx]
theorem Row8.frozen {w : World} {g : Nat} {zs : List Nat} (h : Row8 w g zs) (i : Nat) : w.frozen? ⟨g, i, none⟩ = false := by
  unfold Row8 at h
  simp [World.frozen?, h]
theorem Row8.set_ {w : World} {g : Nat} {zs : List Nat} (h : Row8 w g zs) {i x : Nat} {z : Int} (e : z = (x : Int)) : Row8 (w.setCell ⟨g, i, none⟩ (.int .u8 z)) g (zs.set i x) := by
  subst e
  unfold Row8 at h ⊢
  simp [World.setCell, Array.getElem?_modify, h, List.map_set]
theorem Row8.below {w w' : World} {g B : Nat} {zs : List Nat} (h : Row8 w g zs) (hb : Below B w w') (hg : g < B) : Row8 w' g zs := (hb.block g hg).trans h
theorem Row8.drewN {w : World} {g : Nat} {zs : List Nat} (h : Row8 w g zs) (n : Nat) : Row8 (w.drewN n) g zs := h

/-- the slice from A on reads the bytes bs -/
def Sl8 (w : World) (B : Nat) (A : Option Addr) (n c : Nat) (bs : List Nat) : Prop :=
  n = bs.length ∧ n ≤ c ∧ c ≤ 9223372036854775807 ∧ (∀ x ∈ bs, x < 256) ∧ (bs ≠ [] → ∃ b off, A = some ⟨b, off, none⟩ ∧ b < B ∧ ∀ (k x : Nat), bs[k]? = some x → w.cell? ⟨b, off + k, none⟩ = some (.int .u8 (x : Int)))
theorem Sl8.below {w w' : World} {B n c : Nat} {A : Option Addr} {bs : List Nat} (h : Sl8 w B A n c bs) (hb : Below B w w') : Sl8 w' B A n c bs :=
  ⟨h.1, h.2.1, h.2.2.1, h.2.2.2.1, fun hn => by
    obtain ⟨b, off, e, hlt, hc⟩ := h.2.2.2.2 hn
    exact ⟨b, off, e, hlt, fun k x hx => (hb.cell (p := ⟨b, off + k, none⟩) hlt).trans (hc k x hx)⟩⟩
theorem Sl8.more {w : World} {B B' n c : Nat} {A : Option Addr} {bs : List Nat} (h : Sl8 w B A n c bs) (hB : B ≤ B') : Sl8 w B' A n c bs :=
  ⟨h.1, h.2.1, h.2.2.1, h.2.2.2.1, fun hn => by
    obtain ⟨b, off, e, hlt, hc⟩ := h.2.2.2.2 hn
    exact ⟨b, off, e, by omega, hc⟩⟩
theorem Sl8.at_ {w : World} {B n c : Nat} {A : Option Addr} {bs : List Nat} (h : Sl8 w B A n c bs) {k : Nat} (hk : k < n) :
    ∃ b off x, A = some ⟨b, off, none⟩ ∧ b < B ∧ bs[k]? = some x ∧ x < 256 ∧ w.cell? ⟨b, off + k, none⟩ = some (.int .u8 (x : Int)) := by
  have hl := h.1
  obtain ⟨b, off, e, hlt, hc⟩ := h.2.2.2.2 (by intro e; subst e; simp at hl; omega)
  exact ⟨b, off, bs[k]'(by omega), e, hlt, List.getElem?_eq_getElem (by omega), h.2.2.2.1 _ (List.getElem_mem _), hc k _ (List.getElem?_eq_getElem (by omega))⟩
theorem Row8.sl {w : World} {g : Nat} {zs : List Nat} (h : Row8 w g zs) (hz : zs.length ≤ 9223372036854775807) (hb : ∀ x ∈ zs, x < 256) : Sl8 w w.heap.size (some ⟨g, 0, none⟩) zs.length zs.length zs :=
  ⟨rfl, Nat.le_refl _, hz, hb, fun _ => ⟨g, 0, rfl, h.lt, fun k x hx => by rw [Nat.zero_add]; exact h.at_ hx⟩⟩

theorem Tryd.infoB : (Tryd.prog.info? 5).map (fun i => (i.zero, i.size, i.bytes)) = some (some (.int .u8 0), 1, 1) := by kernel_rfl
theorem wl_make8 {w : World} {ops : Array Oper} {rest : List Oper} {o : Oper} {a : Act} {Q : Exit → Act → World → Prop} (hg : o.guard = none) (l : Operand) (t : TypeId) (ht : Tryd.prog.underlying t = some (.slice 5))
    (hop : o.op = Op.makeSlice t l l) (N : Int) (n : Nat) (hl : a.eval l = .int .i64 N) (hN : N = n) (hn : n ≤ 281474976710656)
    (h : ∀ w', Row8 w' w.heap.size (List.replicate n 0) → Below w.heap.size w w' → w'.heap.size = w.heap.size + 1 → wpList Tryd.prog ops Q rest (a.put o.dst (.slice (some ⟨w.heap.size, 0, none⟩) n n)) w') :
    wpList Tryd.prog ops Q (o :: rest) a w := by
  obtain ⟨i0, hi, hz0, hz1, hz2⟩ := info_parts Tryd.infoB
  subst hN
  refine wpList_plain hg fun K hK => ?_
  have hb : (i0.bytes : Int) * (n : Int) ≤ 281474976710656 := by rw [hz2]; omega
  have hr := run_make (P := Tryd.prog) w t 5 i0 (.int .u8 0) ht hi hz0 .i64 .i64 n n (by omega) (by omega) hb (by omega)
  simp only [Int.toNat_natCast] at hr
  unfold Oper.wp
  simp [execOp, hop, hl, hr, Result.andThen]
  refine hK _ _ (h _ ?_ ((Below.refl _ _).alloc (Nat.le_refl _) _) (by simp))
  unfold Row8
  rw [heap_alloc_new, hz1, Nat.mul_one]
  have e : madeCells (Value.int IntKind.u8 0).cells n = (List.map U8 (List.replicate n 0)).toArray := by
    apply Array.ext'
    rw [show (Value.int IntKind.u8 0).cells = #[Value.int IntKind.u8 0] from rfl, toList_madeCells_one]
    simp [U8]
  rw [e]

/-- the n digits of N in base 256, the most significant first -/
def be (n N : Nat) : List Nat := (List.range n).map fun i => N / 256 ^ (n - 1 - i) % 256
theorem be_length (n N : Nat) : (be n N).length = n := by simp [be]
theorem be_get {n N i : Nat} (h : i < n) : (be n N)[i]? = some (N / 256 ^ (n - 1 - i) % 256) := by simp [be, h]
theorem be_lt (n N : Nat) : ∀ x ∈ be n N, x < 256 := by
  intro x hx
  obtain ⟨i, _, rfl⟩ := List.mem_map.1 hx
  exact Nat.mod_lt _ (by decide)
end Go.Proofs.YtnpaidieijlkkaaDoor

/- limb.Bytes. -/
namespace Go.Proofs.YtnpaidieijlkkaaDoor
open Go.RowKit

set_option maxHeartbeats 400000 in
theorem place_any (i : Nat) (hi : i ≤ 1000000) (w : World) :
    Calls Tryd.prog 92 #[.int .i64 (i : Int)] w fun e w' => e = .returned (.tuple #[.int .i64 ((i / 8 : Nat) : Int), .int .i64 ((i % 8 * 8 : Nat) : Int)]) ∧ w = w' := by
  go_enter Tryd.func92, Tryd.ntmps92
  go_wp2
  go_ret2
  exact ⟨rfl, rfl⟩

theorem div_pow_digits {B : Nat} (hB : 0 < B) (xs : List Nat) (hd : Dg B xs) (L : Nat) : V B xs / B ^ L = xs[L]?.getD 0 + B * V B (xs.drop (L + 1)) := by
  rcases Nat.lt_or_ge L xs.length with h | h
  · obtain ⟨x, hx⟩ := get_lt h
    have hv := V_split (B := B) xs L
    rw [Nat.min_eq_left (by omega)] at hv
    have hl := V_lt (xs.take L) (hd.take L)
    rw [List.length_take, Nat.min_eq_left (by omega)] at hl
    rw [hv, Nat.add_comm, Nat.mul_comm, Nat.add_comm, Nat.add_mul_div_right _ _ (Nat.pow_pos hB), Nat.div_eq_of_lt hl, Nat.zero_add, List.drop_eq_getElem_cons h, V_cons, hx]
    have := (List.getElem?_eq_some_iff.1 hx).2
    simp [this]
  · have hl := V_lt xs hd
    have h2 : B ^ xs.length ≤ B ^ L := Nat.pow_le_pow_right hB h
    rw [Nat.div_eq_of_lt (by omega), List.getElem?_eq_none h, List.drop_of_length_le (by omega)]
    simp [V]

/-- a byte of a number, out of its limb -/
theorem byte_of {xs : List Nat} {N j x : Nat} (h : V b64 xs = N) (hd : Dg b64 xs) (hx : xs[j / 8]?.getD 0 = x) : N / 256 ^ j % 256 = x / 2 ^ (j % 8 * 8) % 256 := by
  have e1 : 256 ^ j = b64 ^ (j / 8) * 256 ^ (j % 8) := by
    rw [show b64 = 256 ^ 8 from rfl, ← Nat.pow_mul, ← Nat.pow_add]
    congr 1
    omega
  have e2 : 2 ^ (j % 8 * 8) = 256 ^ (j % 8) := by rw [show (256 : Nat) = 2 ^ 8 from rfl, ← Nat.pow_mul, Nat.mul_comm]
  have e3 : b64 = 256 ^ (j % 8) * (256 * 256 ^ (7 - j % 8)) := by
    rw [← Nat.pow_succ', ← Nat.pow_add, show j % 8 + (7 - j % 8 + 1) = 8 by omega]
    rfl
  rw [e1, e2, ← Nat.div_div_eq_div_mul, ← h, div_pow_digits b64_pos xs hd, hx]
  generalize V b64 (xs.drop (j / 8 + 1)) = T
  rw [e3, Nat.mul_assoc, Nat.mul_comm (256 ^ (j % 8)), Nat.add_mul_div_right _ _ (Nat.pow_pos (by decide)), Nat.mul_assoc, Nat.add_mul_mod_self_left]

end Go.Proofs.YtnpaidieijlkkaaDoor

/- limb.FromBytes. -/
namespace Go.Proofs.YtnpaidieijlkkaaDoor
open Go.RowKit

/-- the number of the first k bytes, the others as noughts -/
def hi (bs : List Nat) (k : Nat) : Nat := V 256 ((bs.take k).reverse) * 256 ^ (bs.length - k)
theorem hi_zero (bs : List Nat) : hi bs 0 = 0 := by simp [hi, V]
theorem hi_all (bs : List Nat) : hi bs bs.length = V 256 bs.reverse := by simp [hi]
theorem hi_succ {bs : List Nat} {k j x : Nat} (hx : bs[k]? = some x) (hj : j + k + 1 = bs.length) : hi bs (k + 1) = hi bs k + x * 256 ^ j := by
  have hk : k < bs.length := (List.getElem?_eq_some_iff.1 hx).1
  have e : (bs.take (k + 1)).reverse = x :: (bs.take k).reverse := by
    rw [List.take_add_one, hx]; simp
  unfold hi
  rw [e, V_cons, show bs.length - k = j + 1 by omega, show bs.length - (k + 1) = j by omega, Nat.pow_succ, Nat.add_mul, Nat.add_comm]
  congr 1
  rw [Nat.mul_comm (256 ^ j), ← Nat.mul_assoc, Nat.mul_comm 256]
theorem hi_dvd {bs : List Nat} {k j : Nat} (hj : j + k + 1 = bs.length) : 256 ^ (j + 1) ∣ hi bs k := by
  unfold hi
  rw [show bs.length - k = j + 1 by omega]
  exact Nat.dvd_mul_left _ _
/-- the place of a byte in a digit of q bytes -/
theorem digit_dvd {q : Nat} (hq : 0 < q) {zs : List Nat} {N j z : Nat} (hd : Dg (256 ^ q) zs) (h : V (256 ^ q) zs = N) (hdv : 256 ^ (j + 1) ∣ N) (hz : zs[j / q]? = some z) : 256 ^ (j % q + 1) ∣ z := by
  have hB : 0 < 256 ^ q := Nat.pow_pos (by decide)
  have hp := div_pow_digits hB zs hd (j / q)
  rw [hz, h] at hp
  simp only [Option.getD_some] at hp
  have e1 : 256 ^ (j + 1) = (256 ^ q) ^ (j / q) * 256 ^ (j % q + 1) := by
    rw [← Nat.pow_mul, ← Nat.pow_add]
    congr 1
    have := Nat.div_add_mod j q
    omega
  have h2 : 256 ^ (j % q + 1) ∣ N / (256 ^ q) ^ (j / q) := by
    obtain ⟨t, ht⟩ := hdv
    refine ⟨t, ?_⟩
    rw [ht, e1, Nat.mul_assoc, Nat.mul_div_cancel_left _ (Nat.pow_pos hB)]
  rw [hp] at h2
  have h3 : 256 ^ (j % q + 1) ∣ 256 ^ q * V (256 ^ q) (zs.drop (j / q + 1)) := by
    refine Nat.dvd_trans (Nat.pow_dvd_pow 256 ?_) (Nat.dvd_mul_right _ _)
    have := Nat.mod_lt j hq
    omega
  exact (Nat.dvd_add_left h3).1 h2
/-- a byte more -/
theorem digit_add {q : Nat} (hq : 0 < q) {zs : List Nat} {N j z x : Nat} (hd : Dg (256 ^ q) zs) (h : V (256 ^ q) zs = N) (hdv : 256 ^ (j + 1) ∣ N) (hz : zs[j / q]? = some z) (hx : x < 256) :
    z ||| x * 256 ^ (j % q) = z + x * 256 ^ (j % q) ∧ z + x * 256 ^ (j % q) < 256 ^ q ∧ V (256 ^ q) (zs.set (j / q) (z + x * 256 ^ (j % q))) = N + x * 256 ^ j := by
  have hlt : x * 256 ^ (j % q) < 256 ^ (j % q + 1) := by
    rw [Nat.pow_succ, Nat.mul_comm]
    exact Nat.mul_lt_mul_of_pos_left hx (Nat.pow_pos (by decide))
  have hdz := digit_dvd hq hd h hdv hz
  have hzl := hd.get hz
  obtain ⟨t, rfl⟩ := hdz
  refine ⟨?_, ?_, ?_⟩
  · have e : (256 : Nat) ^ (j % q + 1) = 2 ^ (8 * (j % q + 1)) := by rw [Nat.pow_mul]
    rw [e] at hlt ⊢
    exact (Nat.two_pow_add_eq_or_of_lt hlt t).symm
  · obtain ⟨r, hr⟩ : ∃ r, q = (j % q + 1) + r := ⟨q - (j % q + 1), by have := Nat.mod_lt j hq; omega⟩
    have e : 256 ^ q = 256 ^ (j % q + 1) * 256 ^ r := by rw [← Nat.pow_add, ← hr]
    rw [e] at hzl ⊢
    have h1 := Nat.lt_of_mul_lt_mul_left hzl
    have h2 : 256 ^ (j % q + 1) * (t + 1) ≤ 256 ^ (j % q + 1) * 256 ^ r := Nat.mul_le_mul_left _ h1
    rw [Nat.mul_add, Nat.mul_one] at h2
    omega
  · have hv := V_set (B := 256 ^ q) (256 ^ (j % q + 1) * t + x * 256 ^ (j % q)) hz
    have e1 : 256 ^ j = (256 ^ q) ^ (j / q) * 256 ^ (j % q) := by
      rw [← Nat.pow_mul, ← Nat.pow_add, Nat.div_add_mod]
    rw [h, Nat.mul_add] at hv
    rw [e1, Nat.mul_left_comm]
    omega

theorem wrap_nat64 {y : Nat} (h : y < 18446744073709551616) : IntKind.u64.wrap (y : Int) = (y : Int) := by
  have e : IntKind.u64.wrap (y : Int) = (y : Int) % 18446744073709551616 := rfl
  rw [e]; omega
theorem or_nat64 {z y : Nat} (hz : z < 18446744073709551616) (hy : y < 18446744073709551616) : bits BinOp.or IntKind.u64 (z : Int) (y : Int) = ((z ||| y : Nat) : Int) := by
  have e : bits BinOp.or IntKind.u64 (z : Int) (y : Int) = IntKind.u64.wrap ((BitVec.ofInt 64 (z : Int) ||| BitVec.ofInt 64 (y : Int)).toNat : Int) := rfl
  have h1 : (BitVec.ofInt 64 (z : Int) ||| BitVec.ofInt 64 (y : Int)).toNat = z ||| y := by
    rw [BitVec.ofInt_natCast, BitVec.ofInt_natCast, BitVec.toNat_or, BitVec.toNat_ofNat, BitVec.toNat_ofNat, Nat.mod_eq_of_lt (show z < 2 ^ 64 from hz), Nat.mod_eq_of_lt (show y < 2 ^ 64 from hy)]
  rw [e, h1, wrap_nat64 (Nat.or_lt_two_pow (n := 64) hz hy)]
theorem or_shl {z x sh : Nat} (hz : z < 18446744073709551616) (hs : z + x * 2 ^ sh < 18446744073709551616) (ho : z ||| x * 2 ^ sh = z + x * 2 ^ sh) :
    bits BinOp.or IntKind.u64 (z : Int) (IntKind.u64.wrap ((x : Int) * 2 ^ sh)) = ((z + x * 2 ^ sh : Nat) : Int) := by
  have e : (x : Int) * 2 ^ sh = ((x * 2 ^ sh : Nat) : Int) := by rw [Int.natCast_mul, Int.natCast_pow]; rfl
  have hy : x * 2 ^ sh < 18446744073709551616 := by omega
  rw [e, wrap_nat64 hy, or_nat64 hz hy, ho]

set_option maxRecDepth 100000 in
set_option maxHeartbeats 1600000 in
theorem frombytes_any (w : World) (B : Nat) (hB : B ≤ w.heap.size) (A : Option Addr) (n c : Nat) (bs : List Nat) (hs : Sl8 w B A n c bs) (hn : n ≤ 1000000) :
    Calls Tryd.prog 67 #[.slice A n c] w fun e w' => RetN b64 w (V 256 bs.reverse) e w' := by
  have HL := Lib.hid hs.1
  obtain ⟨m, hm⟩ : ∃ m, m = (n + 7) / 8 := ⟨_, rfl⟩
  have hmi : (((n : Int) + 8 - 1) / 8) = (m : Int) := by omega
  have HM := Lib.hid hm
  have hm2 : m ≤ 1000000 := by omega
  clear hm
  go_enter Tryd.func67, Tryd.ntmps67
  go_wp2_with (at_make; refine wl_make rfl _ _ Tryd.underlying56 rfl _ m rfl (by omega) (by omega) ?_; intro w1 hR hB1 hz1; obtain ⟨g, hg⟩ : ∃ g, g = w.heap.size := ⟨_, rfl⟩; rw [← hg] at hR ⊢; have HG := Lib.hid hg; have HZ1 := Lib.hid hz1; clear hg hz1)
  go_loopw [16] (fun i wr => ∃ k zs, k ≤ n ∧ i = .int .i64 (k : Nat) ∧ Row wr g zs ∧ Only w1 wr g ∧ wr.heap.size = w1.heap.size ∧ zs.length = m ∧ Dg b64 zs ∧ V b64 zs = hi bs k) (fun i _ => n - (intOf i).toNat)
  case atStart => exact ⟨0, _, Nat.zero_le _, rfl, hR, Only.refl _ _, rfl, by simp, dg_zeros b64_pos _, by rw [V_replicate, hi_zero]⟩
  case round =>
    obtain ⟨k, zs, hk, rfl, hr, ho, hz, hzl, hdz, hv⟩ := hrel
    have HZ := Lib.hid hz
    have HZL := Lib.hid hzl
    have HV := Lib.hid hv
    clear hz hzl hv
    have hbel : Below w.heap.size w wr := hB1.trans (ho.below (by rw [HG.out]; exact Nat.le_refl _) (by rw [HZ1.out]; omega))
    by_cases hlt : k < n
    · have hsr := hs.below (hbel.mono hB)
      have hki : (k : Int) < n := by omega
      obtain ⟨b, off, x, rfl, hb1, hx, hx8, hc⟩ := hsr.at_ hlt
      have HX := Lib.hid hx
      clear hx
      obtain ⟨j, hj⟩ : ∃ j, j = n - 1 - k := ⟨_, rfl⟩
      have hjn : j + k + 1 = n := by omega
      have hjk : (n : Int) - 1 - k = (j : Int) := by omega
      have hj6 : j ≤ 1000000 := by omega
      have HJN := Lib.hid hjn
      have hLm : j / 8 < m := by have := HM.out; omega
      clear hj hjn
      obtain ⟨z, hzz⟩ := get_lt (zs := zs) (k := j / 8) (by rw [HZL.out]; exact hLm)
      have hda := digit_add (q := 8) (by decide) hdz HV.out (hi_dvd (by rw [← HL.out]; exact HJN.out)) hzz hx8
      have hcz := hr.at_ hzz
      have hfz := hr.frozen
      have hzl := lt64.1 (hdz.get hzz)
      have h256 : 256 ^ (j % 8) = 2 ^ (j % 8 * 8) := by rw [show (256 : Nat) = 2 ^ 8 from rfl, ← Nat.pow_mul, Nat.mul_comm]
      rw [h256] at hda
      have hor := or_shl hzl (by have := hda.2.1; rw [show (256 : Nat) ^ 8 = 18446744073709551616 from rfl] at this; exact this) hda.1
      clear h256 hzz hzl
      obtain ⟨L, hL⟩ : ∃ L, j / 8 = L := ⟨_, rfl⟩
      obtain ⟨sh, hsh⟩ : ∃ sh, j % 8 * 8 = sh := ⟨_, rfl⟩
      rw [hsh] at hor hda
      have HOR := Lib.hid hor
      have HDA := Lib.hid hda
      clear hor hda
      have hsh64 : (sh : Int) < 64 := by omega
      have hpl := place_any j hj6
      rw [hL, hsh] at hpl
      rw [hL] at hcz hLm
      have hLi : (L : Int) < m := by omega
      have HPL := Lib.hid hpl
      have HLL := Lib.hid hL
      clear hpl hL hsh
      have hbg : b ≠ g := by have := HG.out; omega
      have hbg' : g ≠ b := fun e => hbg e.symm
      go_wp2_with (go_at_call 92; refine (HPL.out _).mono ?_; rintro e w2 ⟨rfl, rfl⟩)
      go_region
      rw [HOR.out]
      go_wp2
      go_roundw
      case rel =>
        refine ⟨k + 1, zs.set L (z + x * 2 ^ sh), by omega, by go_num, hr.set _ _, (ho.set _ _).drewN 1, by simpa [World.setCell] using HZ.out, by simp [HZL.out], hdz.set _ HDA.out.2.1, ?_⟩
        have h := HDA.out.2.2
        rw [HLL.out] at h
        rw [hi_succ HX.out (by rw [← HL.out]; exact HJN.out)]
        exact h
      case measure => simp [intOf]; omega
    · obtain rfl : k = n := by omega
      have hsl := hr.sl (by rw [HZL.out]; omega)
      rw [HZL.out] at hsl
      go_wp2_with (go_at_call 90; refine (ltrim_sl _ _ _ _ _ zs hsl).mono ?_; rintro e w2 ⟨m, rfl, h1, h2, rfl⟩)
      go_ret
      exact retN_trim h1 hdz (by rw [HV.out, HL.out, hi_all]) hbel
end Go.Proofs.YtnpaidieijlkkaaDoor

/- limb.Shl, Shr. -/
namespace Go.Proofs.YtnpaidieijlkkaaDoor
open Go.RowKit

theorem wrap_mod64 (y : Nat) : IntKind.u64.wrap (y : Int) = ((y % 18446744073709551616 : Nat) : Int) := by
  have e : IntKind.u64.wrap (y : Int) = (y : Int) % 18446744073709551616 := rfl
  rw [e]; omega

/-- a limb more, moved up by p bits -/
theorem shl_step {zs : List Nat} {L c d x p : Nat} (hc : zs[L]? = some c) (hd : zs[L + 1]? = some d) (hd0 : d = 0) (hcp : c < 2 ^ p) (hp : p < 64) (hx : x < b64) :
    c ||| x * 2 ^ p % 18446744073709551616 = c + x * 2 ^ p % 18446744073709551616 ∧ c + x * 2 ^ p % 18446744073709551616 < 18446744073709551616 ∧ x / 2 ^ (64 - p) < b64 ∧
      V b64 ((zs.set L (c + x * 2 ^ p % 18446744073709551616)).set (L + 1) (x / 2 ^ (64 - p))) = V b64 zs + b64 ^ L * (x * 2 ^ p) := by
  have e64 : 18446744073709551616 = 2 ^ p * 2 ^ (64 - p) := by rw [← Nat.pow_add, show p + (64 - p) = 64 by omega]
  have hm : x * 2 ^ p % 18446744073709551616 = 2 ^ p * (x % 2 ^ (64 - p)) := by
    rw [e64, Nat.mul_comm x, Nat.mul_mod_mul_left]
  have hq : x * 2 ^ p / 18446744073709551616 = x / 2 ^ (64 - p) := by
    rw [e64, Nat.mul_comm x, Nat.mul_div_mul_left _ _ (Nat.pow_pos (by decide))]
  refine ⟨?_, ?_, Nat.lt_of_le_of_lt (Nat.div_le_self _ _) hx, ?_⟩
  · rw [hm, Nat.or_comm, ← Nat.two_pow_add_eq_or_of_lt hcp, Nat.add_comm]
  · rw [hm]
    have h1 : x % 2 ^ (64 - p) < 2 ^ (64 - p) := Nat.mod_lt _ (Nat.pow_pos (by decide))
    have h2 := Nat.mul_le_mul_left (2 ^ p) h1
    rw [← e64, Nat.mul_succ] at h2
    omega
  · obtain ⟨lo, hlo⟩ : ∃ lo, x * 2 ^ p % 18446744073709551616 = lo := ⟨_, rfl⟩
    have hdm := Nat.div_add_mod (x * 2 ^ p) 18446744073709551616
    rw [hq, hlo] at hdm
    rw [hlo]
    have h1 := V_set (B := b64) (c + lo) hc
    have hd' : (zs.set L (c + lo))[L + 1]? = some d := by rw [List.getElem?_set_ne (by omega)]; exact hd
    have h2 := V_set (B := b64) (x / 2 ^ (64 - p)) hd'
    subst hd0
    rw [Nat.mul_zero, Nat.add_zero] at h2
    rw [h2, ← hdm, Nat.mul_add, ← Nat.mul_assoc, show b64 ^ L * 18446744073709551616 = b64 ^ (L + 1) from (Nat.pow_succ ..).symm]
    rw [Nat.mul_add] at h1
    omega

set_option maxRecDepth 100000 in
set_option maxHeartbeats 1600000 in
theorem shl_any (w : World) (B : Nat) (hB : B ≤ w.heap.size) (A : Option Addr) (n c : Nat) (xs : List Nat) (hs : Sl w B A n c xs) (hd : Dg b64 xs) (hn : n ≤ 1000000000) (s : Nat) (hs1 : s ≤ 65536) :
    Calls Tryd.prog 126 #[.slice A n c, .int .i64 (s : Int)] w fun e w' => RetN b64 w (V b64 xs * 2 ^ s) e w' := by
  have hX := trimmed_nm hd
  have HX := Lib.hid hX
  clear hX
  have hs0 : ¬ (s : Int) < 0 := by omega
  have hs2 : ¬ (65536 : Int) < s := by omega
  go_enter Tryd.func126, Tryd.ntmps126
  go_wp2_with fail
  refine (ltrim_sl w B A n c xs hs).mono ?_; rintro e w1 ⟨m, rfl, h3, h4, rfl⟩
  have hlc := h3.cap
  have hmx := h3.max
  by_cases h0 : m = 0
  · subst h0
    go_wp2
    go_ret
    have : trimmed xs = [] := List.eq_nil_of_length_eq_zero h3.len.symm
    have hv := HX.out.2.2
    rw [this] at hv
    refine ⟨[], ?_, _, _, _, rfl, Sl.nil _ _ _ (by omega), Below.refl _ _⟩
    rw [← hv]
    exact ⟨fun x hx => (by cases hx), fun x hx => (by cases hx), by simp [V]⟩
  · have hm0 : ((m : Int) == 0) = false := by simp; omega
    obtain ⟨wh, hwh⟩ : ∃ wh, s / 64 = wh := ⟨_, rfl⟩
    obtain ⟨p, hp⟩ : ∃ p, s % 64 = p := ⟨_, rfl⟩
    have hwi : (s : Int) / 64 = (wh : Int) := by omega
    have hpi : (s : Int) % 64 = (p : Int) := by omega
    have hp64 : p < 64 := by omega
    have hwl : wh ≤ 1024 := by omega
    have hsn : 2 ^ s = b64 ^ wh * 2 ^ p := by
      rw [show b64 = 2 ^ 64 from rfl, ← Nat.pow_mul, ← Nat.pow_add]
      congr 1
      omega
    have HSN := Lib.hid hsn
    clear hsn hwh hp
    go_wp2_with (at_make; refine wl_make rfl _ _ Tryd.underlying56 rfl _ (m + wh + 1) rfl (by omega) (by omega) ?_; intro w1 hR hB1 hz1; obtain ⟨g, hg⟩ : ∃ g, g = w.heap.size := ⟨_, rfl⟩; rw [← hg] at hR ⊢; have HG := Lib.hid hg; have HZ1 := Lib.hid hz1; clear hg hz1)
    have hdx := HX.out.1
    obtain ⟨r, hr64⟩ : ∃ r, 64 - p = r := ⟨_, rfl⟩
    have hri : (64 : Int) - p = (r : Int) := by omega
    have HR := Lib.hid hr64
    clear hr64
    go_loopw [36] (fun i wr => ∃ k zs, k ≤ m ∧ i = .int .i64 (k : Nat) ∧ Row wr g zs ∧ Only w1 wr g ∧ wr.heap.size = w1.heap.size ∧ zs.length = m + wh + 1 ∧ Dg b64 zs ∧ (∀ t, wh + k < t → t < m + wh + 1 → zs[t]? = some 0) ∧ (∃ y, zs[wh + k]? = some y ∧ y < 2 ^ p) ∧ V b64 zs = V b64 ((trimmed xs).take k) * 2 ^ s) (fun i _ => m - (intOf i).toNat)
    case atStart => exact ⟨0, _, Nat.zero_le _, rfl, hR, Only.refl _ _, rfl, by simp, dg_zeros b64_pos _, fun t _ ht => by simp [ht], ⟨0, by rw [List.getElem?_replicate, if_pos (by omega)], Nat.pow_pos (by decide)⟩, by rw [V_replicate]; simp [V]⟩
    case round =>
      obtain ⟨k, zs, hk, rfl, hr, ho, hz, hzl, hdz, hzz, ⟨y, hy, hyp⟩, hv⟩ := hrel
      have HZ := Lib.hid hz
      have HZL := Lib.hid hzl
      have HV := Lib.hid hv
      have HZZ := Lib.hid hzz
      clear hz hzl hv hzz
      have hbel : Below w.heap.size w wr := hB1.trans (ho.below (by rw [HG.out]; exact Nat.le_refl _) (by rw [HZ1.out]; omega))
      by_cases hlt : k < m
      · have hsr := h3.below (hbel.mono hB)
        have hki : (k : Int) < m := by omega
        obtain ⟨b, off, x, rfl, hb1, hx, hc⟩ := hsr.at_ hlt
        have hxl := hdx.get hx
        obtain ⟨d, hdd⟩ : ∃ d, zs[wh + k + 1]? = some d := ⟨0, HZZ.out _ (by omega) (by omega)⟩
        have hd0 : d = 0 := by have := HZZ.out (wh + k + 1) (by omega) (by omega); rw [hdd] at this; exact Option.some.inj this
        have hst := shl_step hy hdd hd0 hyp hp64 hxl
        have hxl64 := lt64.1 hxl
        have hyl := lt64.1 (hdz.get hy)
        have hor : bits BinOp.or IntKind.u64 (y : Int) (IntKind.u64.wrap ((x : Int) * 2 ^ p)) = ((y + x * 2 ^ p % 18446744073709551616 : Nat) : Int) := by
          have e : (x : Int) * 2 ^ p = ((x * 2 ^ p : Nat) : Int) := by rw [Int.natCast_mul, Int.natCast_pow]; rfl
          rw [e, wrap_mod64, or_nat64 hyl (Nat.mod_lt _ (by decide)), hst.1]
        have hcy := hr.at_ hy
        have hcy2 := hr.at_ hdd
        have hup : x / 2 ^ (64 - p) < 2 ^ p := by
          refine Nat.div_lt_of_lt_mul ?_
          rw [← Nat.pow_add, show 64 - p + p = 64 by omega]
          exact hxl64
        rw [HR.out] at hst hup
        have HOR := Lib.hid hor
        have HST := Lib.hid hst
        have HX2 := Lib.hid hx
        have HY := Lib.hid hy
        have HUP := Lib.hid hup
        clear hor hst hx hy hdd hup hd0
        have hfz := hr.frozen
        have hwk : (wh : Int) + k < m + wh + 1 := by omega
        have hwk1 : (wh : Int) + k + 1 < m + wh + 1 := by omega
        have hwk0 : (0 : Int) ≤ (wh : Int) + k := by omega
        have hwk2 : (0 : Int) ≤ (wh : Int) + k + 1 := by omega
        go_wp2
        go_region
        rw [HOR.out]
        go_wp2
        go_roundw
        case rel =>
          have h1 : ((y : Int) + (x : Int) * 2 ^ p % 18446744073709551616) = ((y + x * 2 ^ p % 18446744073709551616 : Nat) : Int) := by rw [Int.natCast_add, Int.natCast_emod, Int.natCast_mul, Int.natCast_pow]; rfl
          have h2 : (x : Int) / 2 ^ r = ((x / 2 ^ r : Nat) : Int) := by rw [Int.natCast_ediv, Int.natCast_pow]; rfl
          refine ⟨k + 1, (zs.set (wh + k) (y + x * 2 ^ p % 18446744073709551616)).set (wh + k + 1) (x / 2 ^ r), by omega, by go_num, (hr.set_ h1).set_ h2, ((ho.set _ _).set _ _).drewN 1, by simpa [World.setCell] using HZ.out, by simp [HZL.out], (hdz.set _ (lt64.2 HST.out.2.1)).set _ HST.out.2.2.1, fun t ht1 ht2 => by rw [List.getElem?_set_ne (by omega), List.getElem?_set_ne (by omega)]; exact HZZ.out t (by omega) ht2, ⟨x / 2 ^ r, ?_, HUP.out⟩, ?_⟩
          · rw [← Nat.add_assoc]; exact set_get _ (by rw [List.length_set, HZL.out]; omega)
          · rw [HST.out.2.2.2, HV.out, V_take_succ HX2.out, HSN.out, Nat.add_mul, Nat.pow_add]
            congr 1
            rw [Nat.mul_assoc, Nat.mul_comm (b64 ^ wh), Nat.mul_assoc, Nat.mul_assoc, Nat.mul_assoc]
            congr 1
            rw [Nat.mul_comm (b64 ^ wh)]
        case measure => simp [intOf]; omega
      · obtain rfl : k = m := by omega
        have hsl := hr.sl (by rw [HZL.out]; omega)
        rw [HZL.out] at hsl
        go_wp2_with (go_at_call 90; refine (ltrim_sl _ _ _ _ _ zs hsl).mono ?_; rintro e w2 ⟨m, rfl, h1, h2, rfl⟩)
        go_ret
        exact retN_trim h1 hdz (by rw [HV.out, List.take_of_length_le (by rw [← h3.len]; omega), HX.out.2.2]) hbel

set_option maxHeartbeats 800000 in
theorem shl_no (w : World) (B : Nat) (A : Option Addr) (n c : Nat) (xs : List Nat) (hs : Sl w B A n c xs) (s : Int) (hs1 : s < 0 ∨ 65536 < s) :
    Calls Tryd.prog 126 #[.slice A n c, .int .i64 s] w fun e w' => e = .returned (.slice none 0 0) ∧ w = w' := by
  rcases hs1 with h | h
  · go_enter Tryd.func126, Tryd.ntmps126
    go_wp2_with fail
    refine (ltrim_sl w B A n c xs hs).mono ?_; rintro e w1 ⟨m, rfl, h3, h4, rfl⟩
    go_wp2
    go_ret
    exact ⟨rfl, rfl⟩
  · have h0 : ¬ s < 0 := by omega
    go_enter Tryd.func126, Tryd.ntmps126
    go_wp2_with fail
    refine (ltrim_sl w B A n c xs hs).mono ?_; rintro e w1 ⟨m, rfl, h3, h4, rfl⟩
    go_wp2
    go_ret
    exact ⟨rfl, rfl⟩
end Go.Proofs.YtnpaidieijlkkaaDoor

/- limb.Shr. -/
namespace Go.Proofs.YtnpaidieijlkkaaDoor
open Go.RowKit

theorem le_valueB {B : Nat} (m N : Nat) : V B ((List.range m).map fun i => N / B ^ i % B) = N % B ^ m := by
  induction m with
  | zero => simp [V, Nat.mod_one]
  | succ m ih =>
    rw [List.range_succ, List.map_append, V_append, ih, List.length_map, List.length_range, Nat.mod_pow_succ]
    simp [V]
theorem V_digits {B M m : Nat} {zs : List Nat} (hl : zs.length = m) (h : ∀ t, t < m → zs[t]? = some (M / B ^ t % B)) (hM : M < B ^ m) : V B zs = M := by
  have e : zs = (List.range m).map fun i => M / B ^ i % B := by
    apply List.ext_getElem?
    intro t
    rcases Nat.lt_or_ge t m with h1 | h1
    · rw [h t h1]; simp [h1]
    · rw [List.getElem?_eq_none (by rw [hl]; exact h1), List.getElem?_eq_none (by simp [h1])]
  rw [e, le_valueB, Nat.mod_eq_of_lt hM]
/-- a limb of the number moved down -/
theorem shr_digit {xs : List Nat} {N wh p i x y : Nat} (hp : p < 64) (h : V b64 xs = N) (hd : Dg b64 xs) (hx : xs[wh + i]?.getD 0 = x) (hy : xs[wh + i + 1]?.getD 0 = y) :
    N / (b64 ^ wh * 2 ^ p) / b64 ^ i % b64 = x / 2 ^ p + y * 2 ^ (64 - p) % b64 ∧ x / 2 ^ p ||| y * 2 ^ (64 - p) % b64 = x / 2 ^ p + y * 2 ^ (64 - p) % b64 := by
  have e64 : b64 = 2 ^ p * 2 ^ (64 - p) := by rw [← Nat.pow_add, show p + (64 - p) = 64 by omega]; rfl
  have hxl : x < b64 := by
    rw [← hx]
    cases hg : xs[wh + i]? with
    | none => exact b64_pos
    | some z => exact hd.get hg
  have hxp : x / 2 ^ p < 2 ^ (64 - p) := by
    refine Nat.div_lt_of_lt_mul ?_
    rw [← e64]; exact hxl
  have hm : y * 2 ^ (64 - p) % b64 = 2 ^ (64 - p) * (y % 2 ^ p) := by
    rw [e64, Nat.mul_comm y, Nat.mul_comm (2 ^ p), Nat.mul_mod_mul_left]
  have hsum : x / 2 ^ p + y * 2 ^ (64 - p) % b64 < b64 := by
    rw [hm]
    have h1 : y % 2 ^ p < 2 ^ p := Nat.mod_lt _ (Nat.pow_pos (by decide))
    have h2 := Nat.mul_le_mul_left (2 ^ (64 - p)) h1
    rw [Nat.mul_succ, Nat.mul_comm (2 ^ (64 - p)) (2 ^ p), ← e64] at h2
    omega
  refine ⟨?_, ?_⟩
  · have e1 : N / (b64 ^ wh * 2 ^ p) / b64 ^ i = N / b64 ^ (wh + i) / 2 ^ p := by
      rw [Nat.div_div_eq_div_mul, Nat.div_div_eq_div_mul, Nat.pow_add]
      congr 1
      rw [Nat.mul_assoc, Nat.mul_assoc, Nat.mul_comm (2 ^ p)]
    have e2 : V b64 (xs.drop (wh + i + 1)) = y + b64 * V b64 (xs.drop (wh + i + 1 + 1)) := by
      have h3 := div_pow_digits b64_pos (xs.drop (wh + i + 1)) (hd.drop _) 0
      rw [Nat.pow_zero, Nat.div_one, List.getElem?_drop, Nat.add_zero, hy, List.drop_drop] at h3
      rw [h3, Nat.zero_add]
    rw [e1, ← h, div_pow_digits b64_pos xs hd, hx, e2]
    generalize V b64 (xs.drop (wh + i + 1 + 1)) = T
    have e3 : x + b64 * (y + b64 * T) = x + 2 ^ p * (2 ^ (64 - p) * y + b64 * (2 ^ (64 - p) * T)) := by
      rw [Nat.mul_add (2 ^ p), ← Nat.mul_assoc (2 ^ p), ← e64, Nat.mul_left_comm (2 ^ p) b64, ← Nat.mul_assoc (2 ^ p) (2 ^ (64 - p)), ← e64, ← Nat.mul_add]
    rw [e3, Nat.add_mul_div_left _ _ (Nat.pow_pos (by decide)), ← Nat.add_assoc, Nat.add_mul_mod_self_left, Nat.mul_comm (2 ^ (64 - p)) y, Nat.add_mod, Nat.mod_eq_of_lt (show x / 2 ^ p < b64 from Nat.lt_of_le_of_lt (Nat.div_le_self _ _) hxl), Nat.mod_eq_of_lt hsum]
  · rw [hm, Nat.or_comm, ← Nat.two_pow_add_eq_or_of_lt hxp, Nat.add_comm]

set_option maxHeartbeats 800000 in
theorem shr_no (w : World) (B : Nat) (A : Option Addr) (n c : Nat) (xs : List Nat) (hs : Sl w B A n c xs) (s : Int) (hs1 : s < 0) :
    Calls Tryd.prog 128 #[.slice A n c, .int .i64 s] w fun e w' => e = .returned (.slice none 0 0) ∧ w = w' := by
  go_enter Tryd.func128, Tryd.ntmps128
  go_wp2_with fail
  refine (ltrim_sl w B A n c xs hs).mono ?_; rintro e w1 ⟨m, rfl, h3, h4, rfl⟩
  go_wp2
  go_ret
  exact ⟨rfl, rfl⟩

theorem nil_retN {w : World} {B : Nat} : RetN B w 0 (.returned (.slice none 0 0)) w :=
  ⟨[], ⟨fun x hx => (by cases hx), fun x hx => (by cases hx), rfl⟩, _, _, _, rfl, Sl.nil _ _ _ (by omega), Below.refl _ _⟩

set_option maxRecDepth 100000 in
set_option maxHeartbeats 1600000 in
theorem shr_any (w : World) (B : Nat) (hB : B ≤ w.heap.size) (A : Option Addr) (n c : Nat) (xs : List Nat) (hs : Sl w B A n c xs) (hd : Dg b64 xs) (hn : n ≤ 1000000000) (s : Nat) (hs1 : s ≤ 9223372036854775807) :
    Calls Tryd.prog 128 #[.slice A n c, .int .i64 (s : Int)] w fun e w' => RetN b64 w (V b64 xs / 2 ^ s) e w' := by
  have hX := trimmed_nm hd
  have HX := Lib.hid hX
  clear hX
  have hs0 : ¬ (s : Int) < 0 := by omega
  obtain ⟨wh, hwh⟩ : ∃ wh, s / 64 = wh := ⟨_, rfl⟩
  obtain ⟨p, hp⟩ : ∃ p, s % 64 = p := ⟨_, rfl⟩
  have hwi : (s : Int) / 64 = (wh : Int) := by omega
  have hpi : (s : Int) % 64 = (p : Int) := by omega
  have hp64 : p < 64 := by omega
  have hsn : 2 ^ s = b64 ^ wh * 2 ^ p := by
    rw [show b64 = 2 ^ 64 from rfl, ← Nat.pow_mul, ← Nat.pow_add]
    congr 1
    omega
  have HSN := Lib.hid hsn
  clear hsn hwh hp
  go_enter Tryd.func128, Tryd.ntmps128
  go_wp2_with fail
  refine (ltrim_sl w B A n c xs hs).mono ?_; rintro e w1 ⟨m, rfl, h3, h4, rfl⟩
  have hlc := h3.cap
  have hmx := h3.max
  by_cases hge : m ≤ wh
  · have hgi : (m : Int) ≤ (wh : Int) := by omega
    go_wp2
    go_ret
    have h1 := V_lt (trimmed xs) HX.out.1
    rw [HX.out.2.2, ← h3.len] at h1
    have h2 : b64 ^ m ≤ b64 ^ wh := Nat.pow_le_pow_right b64_pos hge
    have h5 : b64 ^ wh ≤ b64 ^ wh * 2 ^ p := Nat.le_mul_of_pos_right _ (Nat.pow_pos (by decide))
    have h6 : V b64 xs / 2 ^ s = 0 := by
      rw [HSN.out]
      exact Nat.div_eq_of_lt (Nat.lt_of_lt_of_le h1 (Nat.le_trans h2 h5))
    rw [h6]
    exact nil_retN
  · have hgi : ¬ (m : Int) ≤ (wh : Int) := by omega
    obtain ⟨l, hl⟩ : ∃ l, m = wh + l := ⟨m - wh, by omega⟩
    have hli : (m : Int) - (wh : Int) = (l : Int) := by omega
    have HL := Lib.hid hl
    have hl9 : l ≤ 1000000000 := by omega
    clear hl
    obtain ⟨r, hr64⟩ : ∃ r, 64 - p = r := ⟨_, rfl⟩
    have hri : (64 : Int) - p = (r : Int) := by omega
    have HR := Lib.hid hr64
    clear hr64
    go_wp2_with (at_make; refine wl_make rfl _ _ Tryd.underlying56 rfl _ l rfl (by omega) (by omega) ?_; intro w1 hR hB1 hz1; obtain ⟨g, hg⟩ : ∃ g, g = w.heap.size := ⟨_, rfl⟩; rw [← hg] at hR ⊢; have HG := Lib.hid hg; have HZ1 := Lib.hid hz1; clear hg hz1)
    obtain ⟨M, hM⟩ : ∃ M, V b64 xs / (b64 ^ wh * 2 ^ p) = M := ⟨_, rfl⟩
    have hMl : M < b64 ^ l := by
      have h1 := V_lt (trimmed xs) HX.out.1
      rw [HX.out.2.2, ← h3.len, HL.out, Nat.pow_add] at h1
      rw [← hM, ← Nat.div_div_eq_div_mul]
      exact Nat.lt_of_le_of_lt (Nat.div_le_self _ _) (Nat.div_lt_of_lt_mul h1)
    have HM := Lib.hid hM
    have HML := Lib.hid hMl
    clear hM hMl
    go_loopw [32] (fun i wr => ∃ k zs, k ≤ l ∧ i = .int .i64 (k : Nat) ∧ Row wr g zs ∧ Only w1 wr g ∧ wr.heap.size = w1.heap.size ∧ zs.length = l ∧ Dg b64 zs ∧ (∀ t, t < k → zs[t]? = some (M / b64 ^ t % b64))) (fun i _ => l - (intOf i).toNat)
    case atStart => exact ⟨0, _, Nat.zero_le _, rfl, hR, Only.refl _ _, rfl, by simp, dg_zeros b64_pos _, fun t h => absurd h (by omega)⟩
    case round =>
      obtain ⟨k, zs, hk, rfl, hr, ho, hz, hzl, hdz, hzz⟩ := hrel
      have HZ := Lib.hid hz
      have HZL := Lib.hid hzl
      have HZZ := Lib.hid hzz
      clear hz hzl hzz
      have hbel : Below w.heap.size w wr := hB1.trans (ho.below (by rw [HG.out]; exact Nat.le_refl _) (by rw [HZ1.out]; omega))
      by_cases hlt : k < l
      · have hsr := h3.below (hbel.mono hB)
        have hki : (k : Int) < l := by omega
        have hwm : wh + k < m := by have := HL.out; omega
        obtain ⟨b, off, x, rfl, hb1, hx, hc⟩ := hsr.at_ hwm
        have hbg : b ≠ g := by have := HG.out; omega
        have hbg' : g ≠ b := fun e => hbg e.symm
        have hfz := hr.frozen
        obtain ⟨z0, hz0⟩ := get_lt (zs := zs) (k := k) (by rw [HZL.out]; exact hlt)
        have hcz := hr.at_ hz0
        clear hz0
        have hwi2 : (wh : Int) + k < m := by omega
        have hwi0 : (0 : Int) ≤ (wh : Int) + k := by omega
        have h1 : (x : Int) / 2 ^ p = ((x / 2 ^ p : Nat) : Int) := by rw [Int.natCast_ediv, Int.natCast_pow]; rfl
        have H1 := Lib.hid h1
        clear h1
        have fin : ∀ (v : Nat) (W : World), v = M / b64 ^ k % b64 → Row W g (zs.set k v) → Only w1 W g → W.heap.size = w1.heap.size →
            ∃ k1 zs, k1 ≤ l ∧ Value.int IntKind.i64 (((k + 1 : Nat)) : Int) = .int .i64 (k1 : Nat) ∧ Row W g zs ∧ Only w1 W g ∧ W.heap.size = w1.heap.size ∧ zs.length = l ∧ Dg b64 zs ∧ (∀ t, t < k1 → zs[t]? = some (M / b64 ^ t % b64)) := by
          rintro v W rfl hW hO hS
          refine ⟨k + 1, _, by omega, rfl, hW, hO, hS, by simp [HZL.out], hdz.set _ (Nat.mod_lt _ b64_pos), fun t ht => ?_⟩
          by_cases htk : t = k
          · subst htk; exact set_get _ (by rw [HZL.out]; exact hlt)
          · rw [List.getElem?_set_ne (fun e => htk e.symm)]; exact HZZ.out t (by omega)
        have FIN := Lib.hid fin
        clear fin
        by_cases hlast : wh + k + 1 < m
        · obtain ⟨b', off', y, hA, hb', hy, hc'⟩ := hsr.at_ hlast
          obtain ⟨rfl, rfl⟩ : b = b' ∧ off = off' := by injection hA with h; injection h with h1 h2; exact ⟨h1, h2⟩
          have hsd := shr_digit (i := k) hp64 HX.out.2.2 HX.out.1 (by rw [hx, Option.getD_some]) (by rw [hy, Option.getD_some])
          rw [HM.out, HR.out] at hsd
          have hxl := lt64.1 (HX.out.1.get hx)
          have hor : bits BinOp.or IntKind.u64 ((x : Int) / 2 ^ p) (IntKind.u64.wrap ((y : Int) * 2 ^ r)) = ((x / 2 ^ p + y * 2 ^ r % b64 : Nat) : Int) := by
            have e : (y : Int) * 2 ^ r = ((y * 2 ^ r : Nat) : Int) := by rw [Int.natCast_mul, Int.natCast_pow]; rfl
            rw [e, H1.out, wrap_mod64, or_nat64 (Nat.lt_of_le_of_lt (Nat.div_le_self _ _) hxl) (Nat.mod_lt _ (by decide))]
            exact congrArg Nat.cast hsd.2
          have HOR := Lib.hid hor
          have HSD := Lib.hid hsd
          clear hor hsd hx hy hA
          have hla : (wh : Int) + k + 1 < m := by omega
          have hla0 : (0 : Int) ≤ (wh : Int) + k + 1 := by omega
          go_wp2
          go_region
          rw [HOR.out]
          go_wp2
          go_roundw
          case rel =>
            have hr1 := hr.set_ (i := k) H1.out
            have hr2 := hr1.set_ (i := k) (x := x / 2 ^ p + y * 2 ^ r % b64) rfl
            rw [List.set_set] at hr2
            exact FIN.out _ _ HSD.out.1.symm (hr2.drewN 1) (((ho.set _ _).set _ _).drewN 1) (by simpa [World.setCell] using HZ.out)
          case measure => simp [intOf]; omega
        · have hsd := shr_digit (i := k) (y := 0) hp64 HX.out.2.2 HX.out.1 (by rw [hx, Option.getD_some]) (by rw [List.getElem?_eq_none (by rw [← h3.len]; omega)]; rfl)
          rw [HM.out, Nat.zero_mul, Nat.zero_mod, Nat.add_zero] at hsd
          have HSD := Lib.hid hsd
          clear hsd hx
          have hla : ¬ (wh : Int) + k + 1 < m := by omega
          go_wp2
          go_roundw
          case rel =>
            have hr1 := hr.set_ (i := k) H1.out
            exact FIN.out _ _ HSD.out.1.symm hr1 (ho.set _ _) (by simpa [World.setCell] using HZ.out)
          case measure => simp [intOf]; omega
      · obtain rfl : k = l := by omega
        have hsl := hr.sl (by rw [HZL.out]; omega)
        rw [HZL.out] at hsl
        go_wp2_with (go_at_call 90; refine (ltrim_sl _ _ _ _ _ zs hsl).mono ?_; rintro e w2 ⟨m, rfl, h1, h2, rfl⟩)
        go_ret
        exact retN_trim h1 hdz (by rw [V_digits HZL.out HZZ.out HML.out, HSN.out, HM.out]) hbel
end Go.Proofs.YtnpaidieijlkkaaDoor

/- Numbers for the quotient of two words by one, and for a digit of the long division. -/
namespace Go.Proofs.YtnpaidieijlkkaaDoor

theorem half_eq {Y y1 y0 u q r : Nat} (hY : Y = y1 * 4294967296 + y0) (hqr : q * y1 + r = u) : q * Y + 4294967296 * r = u * 4294967296 + q * y0 := by
  subst hY
  rw [← hqr, Nat.mul_add, Nat.add_mul, ← Nat.mul_assoc]
  omega
/-- the first guess -/
theorem half_start {Y y1 y0 u d : Nat} (hY : Y = y1 * 4294967296 + y0) (h1 : 2147483648 ≤ y1) (h0 : y0 < 4294967296) (hd : d < 4294967296) (hu : u < Y) :
    (u / y1) * y1 + (u - u / y1 * y1) = u ∧ u / y1 * y1 ≤ u ∧ u - u / y1 * y1 < y1 ∧ (u * 4294967296 + d) / Y ≤ u / y1 ∧ u / y1 ≤ 4294967297 := by
  have hdm := Nat.div_add_mod u y1
  have hml := Nat.mod_lt u (show 0 < y1 by omega)
  rw [Nat.mul_comm] at hdm
  obtain ⟨q, hq⟩ : ∃ q, u / y1 = q := ⟨_, rfl⟩
  rw [hq] at hdm ⊢
  refine ⟨by omega, by omega, by omega, ?_, ?_⟩
  · refine Nat.le_of_lt_succ (Nat.div_lt_of_lt_mul ?_)
    have h2 : (q + 1) * y1 = q * y1 + y1 := by rw [Nat.add_mul, Nat.one_mul]
    have h3 : Y * (q + 1) = (q + 1) * y1 * 4294967296 + y0 * (q + 1) := by rw [hY, Nat.add_mul, Nat.mul_comm (q + 1) y1, Nat.mul_right_comm]
    rw [h3, h2]
    omega
  · apply Classical.byContradiction
    intro h
    have h2 : 4294967298 * y1 ≤ q * y1 := Nat.mul_le_mul_right _ (by omega)
    omega
/-- the guess is too great -/
theorem half_more {Y y1 y0 u d q r : Nat} (hY : Y = y1 * 4294967296 + y0) (hqr : q * y1 + r = u) (hu : u < Y) (hd : d < 4294967296) (hlo : (u * 4294967296 + d) / Y ≤ q)
    (h : 4294967296 ≤ q ∨ 4294967296 * r + d < q * y0) : 0 < q ∧ (u * 4294967296 + d) / Y ≤ q - 1 ∧ (q - 1) * y1 + (r + y1) = u := by
  have he := half_eq hY hqr
  have hq0 : 0 < q := by
    rcases h with h | h
    · omega
    · rcases Nat.eq_zero_or_pos q with h' | h'
      · rw [h'] at h; omega
      · exact h'
  obtain ⟨p, rfl⟩ : ∃ p, q = p + 1 := ⟨q - 1, by omega⟩
  refine ⟨by omega, ?_, ?_⟩
  · rw [Nat.add_sub_cancel]
    refine Nat.le_of_lt_succ (Nat.div_lt_of_lt_mul ?_)
    rcases h with h | h
    · have h2 : Y * 4294967296 ≤ Y * (p + 1) := Nat.mul_le_mul_left _ h
      show u * 4294967296 + d < Y * (p + 1)
      omega
    · show u * 4294967296 + d < Y * (p + 1)
      rw [Nat.mul_comm Y]
      omega
  · rw [Nat.add_mul, Nat.one_mul] at hqr
    rw [Nat.add_sub_cancel]
    omega
/-- .. and is right where the loop ends -/
theorem half_done {Y y1 y0 u d q r : Nat} (hY : Y = y1 * 4294967296 + y0) (hy : 0 < Y) (hqr : q * y1 + r = u) (hlo : (u * 4294967296 + d) / Y ≤ q)
    (h : q * y0 ≤ 4294967296 * r + d) : q = (u * 4294967296 + d) / Y := by
  have he := half_eq hY hqr
  refine Nat.le_antisymm ?_ hlo
  exact (Nat.le_div_iff_mul_le hy).2 (by omega)
/-- .. also where the rest has grown too long -/
theorem half_over {Y y1 y0 u d q r : Nat} (hY : Y = y1 * 4294967296 + y0) (h0 : y0 < 4294967296) (hqr : q * y1 + r = u) (hu : u < Y) (hr : 4294967296 ≤ r) : q * y0 ≤ 4294967296 * r + d := by
  have hq : q < 4294967296 := by
    apply Classical.byContradiction
    intro h
    have h2 : 4294967296 * y1 ≤ q * y1 := Nat.mul_le_mul_right _ (by omega)
    omega
  have h2 := mul_le32 hq h0
  omega
theorem half_rest {Y u d : Nat} (hy : 0 < Y) (hu : u < Y) (hd : d < 4294967296) : (u * 4294967296 + d) / Y < 4294967296 ∧ (u * 4294967296 + d) / Y * Y + (u * 4294967296 + d) % Y = u * 4294967296 + d ∧ (u * 4294967296 + d) % Y < Y := by
  refine ⟨Nat.div_lt_of_lt_mul ?_, ?_, Nat.mod_lt _ hy⟩
  · have h2 : (u + 1) * 4294967296 ≤ Y * 4294967296 := Nat.mul_le_mul_right _ hu
    omega
  · rw [Nat.mul_comm]; exact Nat.div_add_mod _ _
/-- both halves -/
theorem halves {Y u d1 d0 q1 r1 q0 r0 : Nat} (h1 : q1 * Y + r1 = u * 4294967296 + d1) (h0 : q0 * Y + r0 = r1 * 4294967296 + d0) (hr : r0 < Y) :
    q1 * 4294967296 + q0 = (u * 18446744073709551616 + d1 * 4294967296 + d0) / Y ∧ r0 = (u * 18446744073709551616 + d1 * 4294967296 + d0) % Y := by
  have e : u * 18446744073709551616 + d1 * 4294967296 + d0 = r0 + Y * (q1 * 4294967296 + q0) := by
    rw [Nat.mul_add, Nat.mul_comm Y q0, ← Nat.mul_assoc, Nat.mul_comm Y q1]
    omega
  refine ⟨?_, ?_⟩
  · rw [e, Nat.add_mul_div_left _ _ (by omega), Nat.div_eq_of_lt hr, Nat.zero_add]
  · rw [e, Nat.add_mul_mod_self_left, Nat.mod_eq_of_lt hr]
/-- the words moved up -/
theorem up_words {hi lo y s : Nat} (hs : s < 64) (hh : hi < y) (hlo : lo < 18446744073709551616) (hy : y * 2 ^ s < 18446744073709551616) :
    hi * 2 ^ s < 18446744073709551616 ∧ (hi * 2 ^ s ||| lo / 2 ^ (64 - s)) = hi * 2 ^ s + lo / 2 ^ (64 - s) ∧ hi * 2 ^ s + lo / 2 ^ (64 - s) < y * 2 ^ s ∧
      (hi * 2 ^ s + lo / 2 ^ (64 - s)) * 18446744073709551616 + lo * 2 ^ s % 18446744073709551616 = (hi * 18446744073709551616 + lo) * 2 ^ s := by
  have e64 : 18446744073709551616 = 2 ^ s * 2 ^ (64 - s) := by rw [← Nat.pow_add, show s + (64 - s) = 64 by omega]
  have hp : 0 < 2 ^ s := Nat.pow_pos (by decide)
  have hup : lo / 2 ^ (64 - s) < 2 ^ s := by
    refine Nat.div_lt_of_lt_mul ?_
    rw [← Nat.pow_add, show 64 - s + s = 64 by omega]
    exact hlo
  have hq : lo * 2 ^ s / 18446744073709551616 = lo / 2 ^ (64 - s) := by
    rw [e64, Nat.mul_comm lo, Nat.mul_div_mul_left _ _ hp]
  have h1 : (hi + 1) * 2 ^ s ≤ y * 2 ^ s := Nat.mul_le_mul_right _ hh
  rw [Nat.add_mul, Nat.one_mul] at h1
  refine ⟨by omega, ?_, by omega, ?_⟩
  · rw [Nat.mul_comm hi, ← Nat.two_pow_add_eq_or_of_lt hup]
  · have h2 := Nat.div_add_mod (lo * 2 ^ s) 18446744073709551616
    rw [hq] at h2
    rw [Nat.add_mul (hi * 18446744073709551616), Nat.mul_right_comm hi]
    omega
theorem down_quo {U y p : Nat} (hp : 0 < p) : U * p / (y * p) = U / y ∧ U * p % (y * p) / p = U % y := by
  refine ⟨Nat.mul_div_mul_right _ _ hp, ?_⟩
  rw [Nat.mul_mod_mul_right, Nat.mul_div_cancel _ hp]

/-! a digit of the long division: B the base, v the divisor, its two greatest digits v1, v0; u the number, its three greatest u2, u1, u0; P the weight of v0 -/
/-- the guess is too great -/
theorem dig_more {B P v v1 v0 vr u u2 u1 u0 ur q r : Nat} (hv : v = (v1 * B + v0) * P + vr) (hu : u = ((u2 * B + u1) * B + u0) * P + ur) (hur : ur < P) (hqr : q * v1 + r = u2 * B + u1)
    (h : r * B + u0 < q * v0) : 0 < q ∧ u / v ≤ q - 1 := by
  have hq0 : 0 < q := by
    rcases Nat.eq_zero_or_pos q with h' | h'
    · rw [h'] at h; omega
    · exact h'
  obtain ⟨p, rfl⟩ : ∃ p, q = p + 1 := ⟨q - 1, by omega⟩
  refine ⟨hq0, ?_⟩
  rw [Nat.add_sub_cancel]
  refine Nat.le_of_lt_succ (Nat.div_lt_of_lt_mul ?_)
  show u < v * (p + 1)
  have h1 : (u2 * B + u1) * B + u0 + 1 ≤ (p + 1) * (v1 * B + v0) := by
    rw [← hqr, Nat.mul_add, Nat.add_mul, ← Nat.mul_assoc]
    omega
  have h2 := Nat.mul_le_mul_right P h1
  rw [Nat.add_mul, Nat.one_mul, Nat.mul_assoc] at h2
  have h3 : v * (p + 1) = (p + 1) * ((v1 * B + v0) * P) + vr * (p + 1) := by rw [hv, Nat.add_mul, Nat.mul_comm (p + 1)]
  have h4 := Nat.zero_le (vr * (p + 1))
  omega
/-- .. and at most one too great where the loop ends -/
theorem dig_done {B P v v1 v0 vr u u2 u1 u0 ur q r : Nat} (hv : v = (v1 * B + v0) * P + vr) (hvr : vr < P) (hu : u = ((u2 * B + u1) * B + u0) * P + ur) (hqr : q * v1 + r = u2 * B + u1) (hqB : q ≤ B) (hv1 : 0 < v1)
    (h : q * v0 ≤ r * B + u0) : q ≤ u / v + 1 := by
  have h1 : q * (v1 * B + v0) ≤ (u2 * B + u1) * B + u0 := by
    rw [← hqr, Nat.mul_add, Nat.add_mul, ← Nat.mul_assoc]
    omega
  have h2 := Nat.mul_le_mul_right P h1
  have h3 : q * v ≤ u + B * P := by
    rw [hv, Nat.mul_add, ← Nat.mul_assoc]
    have h4 : q * vr ≤ B * P := Nat.mul_le_mul hqB (Nat.le_of_lt hvr)
    omega
  have h5 : B * P ≤ v := by
    have h6 : 1 * (B * P) ≤ v1 * (B * P) := Nat.mul_le_mul_right _ hv1
    rw [hv, Nat.add_mul, Nat.mul_assoc]
    omega
  rcases Nat.eq_zero_or_pos v with h0 | h0
  · subst h0
    have : B * P = 0 := by omega
    rcases Nat.mul_eq_zero.1 this with h' | h'
    · have : q = 0 := by omega
      rw [this]; exact Nat.zero_le _
    · omega
  · rcases Nat.eq_zero_or_pos q with h' | h'
    · rw [h']; exact Nat.zero_le _
    · obtain ⟨p, rfl⟩ : ∃ p, q = p + 1 := ⟨q - 1, by omega⟩
      refine Nat.succ_le_succ ((Nat.le_div_iff_mul_le h0).2 ?_)
      rw [Nat.add_mul, Nat.one_mul] at h3
      omega
/-- both greatest digits are equal: no digit is greater than B - 1, and the quotient is not below B - 2 -/
theorem dig_top {B P v v1 vr u u2 ur : Nat} (hv : v = v1 * P + vr) (hvr : vr < P) (hu : u = u2 * (B * P) + ur) (h2 : v1 ≤ u2) (hB : B ≤ 2 * v1 + 2) (huv : u < v * B) (hB0 : 2 ≤ B) : u / v ≤ B - 1 ∧ B - 1 ≤ u / v + 1 := by
  have hv0 : 0 < v := by
    rcases Nat.eq_zero_or_pos v with h' | h'
    · rw [h'] at huv; omega
    · exact h'
  refine ⟨?_, ?_⟩
  · have : u / v < B := Nat.div_lt_of_lt_mul huv
    omega
  · obtain ⟨b, rfl⟩ : ∃ b, B = b + 2 := ⟨B - 2, by omega⟩
    show b + 1 ≤ u / v + 1
    refine Nat.succ_le_succ ((Nat.le_div_iff_mul_le hv0).2 ?_)
    have h3 : v ≤ (v1 + 1) * P := by rw [hv, Nat.add_mul, Nat.one_mul]; omega
    have h4 := Nat.mul_le_mul_left b h3
    have h5 : b * (v1 + 1) ≤ v1 * (b + 2) := by
      rw [Nat.mul_add, Nat.mul_add, Nat.mul_comm b v1]; omega
    have h6 := Nat.mul_le_mul_right P h5
    have h7 : v1 * (b + 2) * P ≤ u2 * ((b + 2) * P) := by rw [Nat.mul_assoc]; exact Nat.mul_le_mul_right _ h2
    rw [Nat.mul_assoc] at h6
    omega
/-- the first guess -/
theorem dig_start {P v v1 vr u t ur : Nat} (hv : v = v1 * P + vr) (hu : u = t * P + ur) (hur : ur < P) (hv1 : 0 < v1) : u / v ≤ t / v1 := by
  refine Nat.le_of_lt_succ (Nat.div_lt_of_lt_mul ?_)
  show u < v * (t / v1 + 1)
  have h1 := Nat.div_add_mod t v1
  have h2 := Nat.mod_lt t hv1
  have h3 : t + 1 ≤ v1 * (t / v1 + 1) := by rw [Nat.mul_add]; omega
  have h4 := Nat.mul_le_mul_right P h3
  rw [Nat.add_mul, Nat.one_mul] at h4
  have h5 : v * (t / v1 + 1) = v1 * (t / v1 + 1) * P + vr * (t / v1 + 1) := by rw [hv, Nat.add_mul, Nat.mul_right_comm]
  omega
end Go.Proofs.YtnpaidieijlkkaaDoor
