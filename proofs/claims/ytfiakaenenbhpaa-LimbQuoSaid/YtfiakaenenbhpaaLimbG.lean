/- limb.Of, shortQuo. -/
import Derived.Test.YtfiakaenenbhpaaReg
namespace Go.Proofs.Ytfiakaenenbhpaa
open Go.RowKit Go.Shelf

theorem keeps_drewN {B : Nat} {W W' : World} (h : KeepsFrom B W W') (q : Nat) : KeepsFrom B W (W'.drewN q) := ⟨h.size, h.same⟩
theorem heap_new_row (w : World) (x : Nat) : Row (w.alloc (.cells #[.int .u64 (x : Int)] 58)) w.heap.size [x] := heap_alloc_new w _

theorem of_any (x : Nat) (hx : x < b64) (w : World) :
    Calls Try.prog 59 #[.int .u64 x] w fun e w' => RetN b64 w x e w' := by
  have hR := heap_new_row w x
  have hsl := hR.sl (by simp)
  have HX := Lib.hid hx
  clear hx
  go_enter Try.func59, Try.ntmps59
  go_wp2_with (go_at_call 38; refine (ltrim_sl _ _ _ _ _ [x] hsl).mono ?_; rintro e w1 ⟨m, rfl, h1, h2, rfl⟩)
  go_ret
  exact retN_trim h1 (fun y hy => by simp at hy; subst hy; exact HX.out) (by simp [V]) ((Below.refl _ _).alloc (Nat.le_refl _) _)

theorem Row.alloc {w : World} {g : Nat} {zs : List Nat} (h : Row w g zs) (o : Obj) : Row (w.alloc o) g zs := (Below.heap_alloc w o g h.lt).trans h
theorem row_kept {A B : World} {g : Nat} {zs : List Nat} {row : Option Nat} (h : Row A g zs) (hg : A.grownBy B row) (hr : ∀ r, row = some r → ∃ o, A.heap[r]? = some o ∧ o.isCells = false) : Row B g zs := by
  refine (hg.block g h.lt ?_).trans h
  intro e
  obtain ⟨o, ho, hc⟩ := hr g e.symm
  unfold Row at h
  rw [h] at ho
  cases ho
  cases hc

theorem of_exact (x : Nat) (w : World) :
    Calls Try.prog 59 #[.int .u64 x] w fun e w' => e = .returned (.slice (some ⟨w.heap.size, 0, none⟩) (trimL [x] 1) 1) ∧ w' = w.alloc (.cells #[.int .u64 (x : Int)] 58) := by
  have hR := heap_new_row w x
  have hsl := hR.sl (by simp)
  have ht := ltrim_any (w.alloc (.cells #[.int .u64 (x : Int)] 58)) _ _ _ _ [x] hsl
  obtain ⟨tl, htl⟩ : ∃ tl, trimL [x] 1 = tl := ⟨_, rfl⟩
  simp only [List.length_singleton] at ht
  rw [htl] at ht ⊢
  have HT := Lib.hid ht
  clear ht htl
  go_enter Try.func59, Try.ntmps59
  go_wp2_with (go_at_call 38; refine HT.out.mono ?_; rintro e w1 ⟨rfl, rfl⟩)
  go_ret
  exact ⟨rfl, rfl⟩

/-- short division, as it goes over the limbs -/
def sqStep (d : Nat) (xs : List Nat) (s : List Nat × Nat) (i : Nat) : List Nat × Nat :=
  (s.1.set i ((s.2 * b64 + xs[i]?.getD 0) / d), (s.2 * b64 + xs[i]?.getD 0) % d)
def sq (d : Nat) (xs : List Nat) (n : Nat) (l : List Nat) : List Nat × Nat := l.foldl (sqStep d xs) (List.replicate n 0, 0)
theorem sq_snoc (d : Nat) (xs : List Nat) (n : Nat) (l : List Nat) (i : Nat) : sq d xs n (l ++ [i]) = sqStep d xs (sq d xs n l) i := by simp [sq]

attribute [local go_sem] Oper.semAt_some

set_option maxRecDepth 100000 in
set_option maxHeartbeats 2000000 in
theorem shortQuo_any (w : World) (B : Nat) (hB : B = w.heap.size) (A : Option Addr) (n c : Nat) (xs : List Nat) (hs : Sl w B A n c xs) (hd : Dg b64 xs) (h1 : n ≤ 17592186044416) (d : Nat) (hd0 : 0 < d) (hdl : d < b64)
    (Ok : Nat → Prop) (hOk0 : Ok 0) (hOk : ∀ r x, Ok r → x < b64 → 1 < n → Ok ((r * b64 + x) % d))
    (hdiv : ∀ (r x : Nat) (W : World), Ok r → x < b64 → Calls Try.prog 58 #[.int .u64 r, .int .u64 x, .int .u64 d] W fun e W' => e = .returned (.tuple #[.int .u64 (((r * b64 + x) / d : Nat) : Int), .int .u64 (((r * b64 + x) % d : Nat) : Int)]) ∧ ∃ q, W' = W.drewN q) :
    Calls Try.prog 45 #[.slice A n c, .int .u64 d] w fun e w' =>
      ∃ A1 m1 c1 q A2 m2 c2 r, e = .returned (.tuple #[.slice A1 m1 c1, .slice A2 m2 c2]) ∧ Sl w' w'.heap.size A1 m1 c1 q ∧ Sl w' w'.heap.size A2 m2 c2 r ∧ Below w.heap.size w w' ∧
        Nm b64 q (V b64 (sq d xs n (downL n n)).1) ∧ Nm b64 r (sq d xs n (downL n n)).2 := by
  subst hB
  refine (callsIn_wide (n := 9)).1 ?_
  refine callsIn_of_wp_marks Try.func45 rfl trivial ?_ rfl
  simp only [Try.ntmps45, List.size_toArray, List.length_cons, List.length_nil, Nat.reduceAdd, Nat.reduceSub, Array.replicate_succ, Array.replicate_zero, List.push_toArray, List.append_toArray, List.nil_append, List.cons_append]
  have hlc := hs.cap
  have hmx := hs.max
  obtain ⟨Z, hZ⟩ : ∃ Z : Array Value, Z = (List.map U (List.replicate n 0)).toArray := ⟨_, rfl⟩
  have HZ := Lib.hid hZ
  clear hZ
  gi_wp2_with (gi_at_make; refine wl_make_in rfl _ _ Try.underlying23 rfl _ n rfl rfl (by omega) Z HZ.out ?_)
  refine ⟨trivial, (back_in Fence.wide _ trivial rfl _ _ _ _).mono ?_⟩
  rintro e w1 ⟨rfl, rfl⟩
  gi_wp2_with fail
  have b1 := Boxed.new w 58 (.int .u64 (d : Int))
  have b2 := Boxed.new (w.alloc (.cells #[.int .u64 (d : Int)] 58)) 23 (.slice (some ⟨w.heap.size + 1 + 1, 0, none⟩) n n)
  have r3 : Row (((w.alloc (.cells #[.int .u64 (d : Int)] 58)).alloc (.cells #[.slice (some ⟨w.heap.size + 1 + 1, 0, none⟩) n n] 23)).alloc (.cells Z 58)) (w.heap.size + 1 + 1) (List.replicate n 0) := by
    have h := heap_alloc_new ((w.alloc (.cells #[.int .u64 (d : Int)] 58)).alloc (.cells #[.slice (some ⟨w.heap.size + 1 + 1, 0, none⟩) n n] 23)) (.cells Z 58)
    simp only [World.size_alloc] at h
    unfold Row
    rw [h, HZ.out]
  have b4 := Boxed.new (((w.alloc (.cells #[.int .u64 (d : Int)] 58)).alloc (.cells #[.slice (some ⟨w.heap.size + 1 + 1, 0, none⟩) n n] 23)).alloc (.cells Z 58)) 58 (.int .u64 0)
  have b5 := Boxed.new ((((w.alloc (.cells #[.int .u64 (d : Int)] 58)).alloc (.cells #[.slice (some ⟨w.heap.size + 1 + 1, 0, none⟩) n n] 23)).alloc (.cells Z 58)).alloc (.cells #[.int .u64 0] 58)) 23 (.slice A n c)
  have b1' := (((b1.alloc (.cells #[.slice (some ⟨w.heap.size + 1 + 1, 0, none⟩) n n] 23)).alloc (.cells Z 58)).alloc (.cells #[.int .u64 0] 58)).alloc (.cells #[.slice A n c] 23)
  have b2' := ((b2.alloc (.cells Z 58)).alloc (.cells #[.int .u64 0] 58)).alloc (.cells #[.slice A n c] 23)
  have r3' := (r3.alloc (.cells #[.int .u64 0] 58)).alloc (.cells #[.slice A n c] 23)
  have b4' := b4.alloc (.cells #[.slice A n c] 23)
  have hB0 : Below w.heap.size w (((((w.alloc (.cells #[.int .u64 (d : Int)] 58)).alloc (.cells #[.slice (some ⟨w.heap.size + 1 + 1, 0, none⟩) n n] 23)).alloc (.cells Z 58)).alloc (.cells #[.int .u64 0] 58)).alloc (.cells #[.slice A n c] 23)) :=
    (((((Below.refl _ w).alloc (Nat.le_refl _) _).alloc (by simp) _).alloc (by simp; omega) _).alloc (by simp; omega) _).alloc (by simp; omega) _
  obtain ⟨W0, hW0⟩ : ∃ W0, (((((w.alloc (.cells #[.int .u64 (d : Int)] 58)).alloc (.cells #[.slice (some ⟨w.heap.size + 1 + 1, 0, none⟩) n n] 23)).alloc (.cells Z 58)).alloc (.cells #[.int .u64 0] 58)).alloc (.cells #[.slice A n c] 23)) = W0 := ⟨_, rfl⟩
  have hsz : W0.heap.size = w.heap.size + 5 := by rw [← hW0]; simp
  rw [hW0] at b1' b2' r3' b4' b5 hB0 ⊢
  simp only [World.size_alloc] at b1' b2' r3' b4' b5
  have HSZ := Lib.hid hsz
  clear hsz hW0 b1 b2 r3 b4
  have hsx := hs.below hB0
  refine wpIn_rangeFunc_ownG rfl (by omega) (gf := 56) (lb := #[.pointer (some ⟨w.heap.size + 1 + 1 + 1 + 1, 0, none⟩)]) rfl trivial (enters_of Try.func56 (by kernel_rfl) rfl)
    (back_stops Fence.wide _ trivial rfl (by omega) (w.heap.size + 1 + 1 + 1 + 1) w.heap.size n c A xs W0 (by rw [HSZ.out]; omega) (by rw [HSZ.out]; omega) b5.cell hsx) KpB.trans (KpB.put (by rw [HSZ.out]; omega) (by rw [HSZ.out]; omega)) (Below.refl _ _) (fun _ => rfl)
    (fun pre W => (∃ zs r, sq d xs n (pre.map (·.1)) = (zs, r) ∧ zs.length = n ∧ Dg b64 zs ∧ r < d ∧ (pre.length < n → Ok r) ∧ Row W (w.heap.size + 1 + 1) zs ∧ W.cell? ⟨w.heap.size, 0, none⟩ = some (.int .u64 (d : Int)) ∧ W.cell? ⟨w.heap.size + 1, 0, none⟩ = some (.slice (some ⟨w.heap.size + 1 + 1, 0, none⟩) n n) ∧ W.frozen? ⟨w.heap.size + 1, 0, none⟩ = false ∧
      W.cell? ⟨w.heap.size + 1 + 1 + 1, 0, none⟩ = some (.int .u64 (r : Int)) ∧ W.frozen? ⟨w.heap.size + 1 + 1 + 1, 0, none⟩ = false) ∧ Below w.heap.size w W)
    (fun _ _ _ => False)
    (OwnFrom.and (Own.from (fun s A B row hs hg hr => by obtain ⟨zs, r, e1, e2, e3, e4, e5, e6, e7, e8, e9, e10, e11⟩ := hs; exact ⟨zs, r, e1, e2, e3, e4, e5, row_kept e6 hg hr, cell_kept e7 hg hr, cell_kept e8 hg hr, (frozen_kept e8 hg hr).trans e9, cell_kept e10 hg hr, (frozen_kept e10 hg hr).trans e11⟩) _) (ownFrom_below (Nat.le_refl _) (by rw [HSZ.out]; omega)))
    (fun _ _ _ _ _ hs _ _ => hs)
    ⟨⟨_, 0, rfl, by simp, dg_zeros b64_pos _, hd0, fun _ => hOk0, r3', b1'.cell, b2'.cell, b2'.frozen, b4'.cell, b4'.frozen⟩, hB0⟩
    (fun x => { tmps := #[.slice A n c, .int .u64 (d : Int), undef, .pointer (some ⟨w.heap.size, 0, none⟩), .pointer (some ⟨w.heap.size + 1, 0, none⟩), .slice none 0 0, .pointer (some ⟨w.heap.size + 1 + 1 + 1, 0, none⟩), .int .i64 (x.1 : Int), .int .u64 ((xs[x.1]?.getD 0 : Nat) : Int), .slice A n c, .int .i64 (n : Int), .slice (some ⟨w.heap.size + 1 + 1, 0, none⟩) n n, .slice A n c, .func (.func 56) #[] #[.pointer (some ⟨w.heap.size + 1 + 1 + 1 + 1, 0, none⟩)], .int .i64 (x.1 : Int), .int .u64 ((xs[x.1]?.getD 0 : Nat) : Int), undef, undef, undef, undef, undef, undef, undef, undef, undef, undef, undef, undef, undef, undef], defers := [] }) ?assign ?body ?done ?stop
  case assign =>
    intro l x W K hK
    gi_wp2
    exact hK
  case body =>
    rintro l pre x W ⟨⟨zs, r, e1, e2, e3, e4, e5, e6, e7, e8, e9, e10, e11⟩, hB⟩ hpl
    obtain ⟨i, hi⟩ := x
    obtain ⟨xv, hxv⟩ : ∃ xv, xs[i]? = some xv := get_lt (by rw [← hs.len]; exact hi)
    have hxl := hd.get hxv
    have HE1 := Lib.hid e1
    have HE2 := Lib.hid e2
    have HXV := Lib.hid hxv
    dsimp only
    rw [hxv]
    dsimp only [Option.getD_some]
    clear hxv e1 e2
    have hii : (i : Int) < n := by omega
    obtain ⟨old, hold⟩ := get_lt (zs := zs) (k := i) (by rw [HE2.out]; exact hi)
    have hcz := e6.at_ hold
    have hfz := e6.frozen
    clear hold
    have hok := e5 hpl
    obtain ⟨qv, hqv⟩ : ∃ qv, qv = (r * b64 + xv) / d := ⟨_, rfl⟩
    obtain ⟨rv, hrv⟩ : ∃ rv, rv = (r * b64 + xv) % d := ⟨_, rfl⟩
    have hdv : ∀ W : World, Calls Try.prog 58 #[.int .u64 r, .int .u64 xv, .int .u64 d] W fun e W' => e = .returned (.tuple #[.int .u64 (qv : Int), .int .u64 (rv : Int)]) ∧ ∃ q, W' = W.drewN q := by
      intro W; rw [hqv, hrv]; exact hdiv r xv W hok hxl
    have HDV := Lib.hid hdv
    have HQV := Lib.hid hqv
    have HRV := Lib.hid hrv
    clear hdv hqv hrv
    have hmx : Try.prog.follows .mixedOrders = true := by kernel_rfl
    gi_wp2
    have hgi : w.heap.size + 1 + 1 ≠ w.heap.size := by omega
    refine wpIn_region_inv hmx ?hd
      (fun j => [.slice (some ⟨w.heap.size + 1 + 1, 0, none⟩) n n, .int .i64 (i : Int), .int .u64 (r : Int), .int .u64 (xv : Int), .int .u64 (d : Int), .tuple #[.int .u64 (qv : Int), .int .u64 (rv : Int)], .tuple #[.int .u64 (qv : Int), .int .u64 (rv : Int)], .int .u64 (qv : Int), .int .u64 (rv : Int), .pointer (some ⟨w.heap.size + 1 + 1, i, none⟩)].getD j undef)
      (wor2 W 10 11 ⟨w.heap.size + 1 + 1, i, none⟩ ⟨w.heap.size + 1 + 1 + 1, 0, none⟩ (.int .u64 (qv : Int)) (.int .u64 (rv : Int))) ?hw0 ?hstep ?hend ?hac
    case hd => exact distinct_of (by kernel_rfl)
    case hw0 => exact ⟨1, by rw [wor2_none (by kernel_rfl) (by kernel_rfl)]; rfl⟩
    case hac => exact acyclic_of (by kernel_rfl)
    case hstep =>
      intro L a' hs hdf hcl hold hnew i' hi' oi hoi q0 K hK
      obtain ⟨hnl, o2, ho2, hdep⟩ := mem_ready.1 hi'
      obtain rfl : oi = o2 := Option.some.inj (hoi.symm.trans ho2)
      have hlt : i' < 12 := (Array.getElem?_eq_some_iff.1 hoi).1
      have t3 : a'.tmps.getD 3 undef = .pointer (some ⟨w.heap.size, 0, none⟩) := hold 3 (free_of (by kernel_rfl))
      have t4 : a'.tmps.getD 4 undef = .pointer (some ⟨w.heap.size + 1, 0, none⟩) := hold 4 (free_of (by kernel_rfl))
      have t6 : a'.tmps.getD 6 undef = .pointer (some ⟨w.heap.size + 1 + 1 + 1, 0, none⟩) := hold 6 (free_of (by kernel_rfl))
      have t7 : a'.tmps.getD 7 undef = .int .i64 (i : Int) := hold 7 (free_of (by kernel_rfl))
      have t8 : a'.tmps.getD 8 undef = .int .u64 (xv : Int) := hold 8 (free_of (by kernel_rfl))
      clear hold
      have w1 := (wor2_cell (w := W) (i := 10) (j := 11) (p := ⟨w.heap.size + 1 + 1, i, none⟩) (q := ⟨w.heap.size + 1 + 1 + 1, 0, none⟩) (u := .int .u64 (qv : Int)) (v := .int .u64 (rv : Int)) L (a := ⟨w.heap.size + 1, 0, none⟩) (by simp) (by simp)).trans e8
      have w2 := (wor2_cell (w := W) (i := 10) (j := 11) (p := ⟨w.heap.size + 1 + 1, i, none⟩) (q := ⟨w.heap.size + 1 + 1 + 1, 0, none⟩) (u := .int .u64 (qv : Int)) (v := .int .u64 (rv : Int)) L (a := ⟨w.heap.size, 0, none⟩) (by simp) (by simp)).trans e7
      obtain rfl | rfl | rfl | rfl | rfl | rfl | rfl | rfl | rfl | rfl | rfl | rfl : i' = 0 ∨ i' = 1 ∨ i' = 2 ∨ i' = 3 ∨ i' = 4 ∨ i' = 5 ∨ i' = 6 ∨ i' = 7 ∨ i' = 8 ∨ i' = 9 ∨ i' = 10 ∨ i' = 11 := by omega
      all_goals
        have hoi' := hoi
        simp only [List.getElem?_toArray, List.getElem?_cons_zero, List.getElem?_cons_succ, Option.some.injEq] at hoi'
        subst hoi'
      · rw [wor2_other L (by decide) (by decide)] at hK
        refine in_value hoi rfl (by intro c h; cases h) (fun _ _ => trivial) ?_ (hK q0)
        simp [execOp, Act.eval, t4, w1, go_sem]
      · rw [wor2_other L (by decide) (by decide)] at hK
        refine in_value hoi rfl (by intro c h; cases h) (fun _ _ => trivial) ?_ (hK q0)
        simp [execOp, Act.eval, t7]
      · rw [wor2_other L (by decide) (by decide)] at hK
        have h11 : L.getD 11 false = false := by
          apply Classical.byContradiction
          intro h
          have h2 := hcl 11 _ rfl (by simpa using h) ⟨2, .phase⟩ (by simp) rfl
          rw [unlisted hnl] at h2
          cases h2
        have w3 : (wor2 W 10 11 ⟨w.heap.size + 1 + 1, i, none⟩ ⟨w.heap.size + 1 + 1 + 1, 0, none⟩ (.int .u64 (qv : Int)) (.int .u64 (rv : Int)) L).cell? ⟨w.heap.size + 1 + 1 + 1, 0, none⟩ = some (.int .u64 (r : Int)) := by
          unfold wor2
          rw [h11]
          simp only [Bool.false_eq_true, if_false]
          split
          · rw [World.cell?_setCell_other _ _ _ _ (by simp)]; exact e10
          · exact e10
        refine in_value hoi rfl (by intro c h; cases h) (fun _ _ => trivial) ?_ (hK q0)
        simp [execOp, Act.eval, t6, w3, go_sem]
      · rw [wor2_other L (by decide) (by decide)] at hK
        refine in_value hoi rfl (by intro c h; cases h) (fun _ _ => trivial) ?_ (hK q0)
        simp [execOp, Act.eval, t8]
      · rw [wor2_other L (by decide) (by decide)] at hK
        refine in_value hoi rfl (by intro c h; cases h) (fun _ _ => trivial) ?_ (hK q0)
        simp [execOp, Act.eval, t3, w2, go_sem]
      · rw [wor2_other L (by decide) (by decide)] at hK
        have t19 : a'.tmps.getD 19 undef = .int .u64 (r : Int) := hnew 2 _ 19 rfl rfl (hdep ⟨2, .data⟩ (by simp) rfl) (by simp)
        have t20 : a'.tmps.getD 20 undef = .int .u64 (xv : Int) := hnew 3 _ 20 rfl rfl (hdep ⟨3, .data⟩ (by simp) rfl) (by simp)
        have t21 : a'.tmps.getD 21 undef = .int .u64 (d : Int) := hnew 4 _ 21 rfl rfl (hdep ⟨4, .data⟩ (by simp) rfl) (by simp)
        refine in_call (f := 58) (args := #[.int .u64 (r : Int), .int .u64 (xv : Int), .int .u64 (d : Int)]) hoi rfl (by intro c h; cases h) rfl (fun _ _ => trivial) ?_ (CallsIn.inRound l (callsIn_wide.2 (HDV.out _))) (fun q => by rw [World.drewN_drewN]; exact hK _)
        simp [execOp, Act.eval, t19, t20, t21, resolve, invoke, Deferred.ofValue]
      · rw [wor2_other L (by decide) (by decide)] at hK
        have t22 : a'.tmps.getD 22 undef = .tuple #[.int .u64 (qv : Int), .int .u64 (rv : Int)] := hnew 5 _ 22 rfl rfl (hdep ⟨5, .data⟩ (by simp) rfl) (by simp)
        refine in_value hoi rfl (by intro c h; cases h) (fun _ _ => trivial) ?_ (hK q0)
        simp [execOp, Act.eval, t22]
      · rw [wor2_other L (by decide) (by decide)] at hK
        have t16 : a'.tmps.getD 16 undef = .tuple #[.int .u64 (qv : Int), .int .u64 (rv : Int)] := hnew 6 _ 16 rfl rfl (hdep ⟨6, .data⟩ (by simp) rfl) (by simp)
        refine in_value hoi rfl (by intro c h; cases h) (fun _ _ => trivial) ?_ (hK q0)
        simp [execOp, Act.eval, t16, go_sem]
      · rw [wor2_other L (by decide) (by decide)] at hK
        have t16 : a'.tmps.getD 16 undef = .tuple #[.int .u64 (qv : Int), .int .u64 (rv : Int)] := hnew 6 _ 16 rfl rfl (hdep ⟨6, .data⟩ (by simp) rfl) (by simp)
        refine in_value hoi rfl (by intro c h; cases h) (fun _ _ => trivial) ?_ (hK q0)
        simp [execOp, Act.eval, t16, go_sem]
      · rw [wor2_other L (by decide) (by decide)] at hK
        have t17 : a'.tmps.getD 17 undef = .slice (some ⟨w.heap.size + 1 + 1, 0, none⟩) n n := hnew 0 _ 17 rfl rfl (hdep ⟨0, .data⟩ (by simp) rfl) (by simp)
        have t18 : a'.tmps.getD 18 undef = .int .i64 (i : Int) := hnew 1 _ 18 rfl rfl (hdep ⟨1, .data⟩ (by simp) rfl) (by simp)
        refine in_value hoi rfl (by intro c h; cases h) (fun _ _ => trivial) ?_ (hK q0)
        simp [execOp, Act.eval, t17, t18, go_sem, hii]
      · have h10 := unlisted hnl
        have h11 : L.getD 11 false = false := by
          apply Classical.byContradiction
          intro h
          have h2 := hcl 11 _ rfl (by simpa using h) ⟨10, .chain⟩ (by simp) rfl
          rw [h10] at h2
          cases h2
        have t25 : a'.tmps.getD 25 undef = .pointer (some ⟨w.heap.size + 1 + 1, i, none⟩) := hnew 9 _ 25 rfl rfl (hdep ⟨9, .data⟩ (by simp) rfl) (by simp)
        have t23 : a'.tmps.getD 23 undef = .int .u64 (qv : Int) := hnew 7 _ 23 rfl rfl (hdep ⟨7, .data⟩ (by simp) rfl) (by simp)
        rw [wor2_first (getD_set_self L (by rw [hs]; decide)) (by rw [getD_set_other L (by decide)]; exact h11)] at hK
        rw [wor2_none h10 h11]
        have hcz' : W.cell? ⟨w.heap.size + 1 + 1, i, none⟩ = some (.int .u64 (old : Int)) := hcz
        have hfz' : W.frozen? ⟨w.heap.size + 1 + 1, i, none⟩ = false := hfz i
        refine in_skip hoi rfl (by intro c h; cases h) (fun _ _ => trivial) ?_ (hK q0)
        simp [execOp, Act.eval, t25, t23, go_sem, stored, hcz', hfz']
        rfl
      · have h11 := unlisted hnl
        have h10 : L.getD 10 false = true := (hdep ⟨10, .chain⟩ (by simp) rfl)
        have t24 : a'.tmps.getD 24 undef = .int .u64 (rv : Int) := hnew 8 _ 24 rfl rfl (hdep ⟨8, .data⟩ (by simp) rfl) (by simp)
        rw [wor2_both (getD_set_self L (by rw [hs]; decide))] at hK
        rw [wor2_first h10 h11]
        have hcr' : (W.setCell ⟨w.heap.size + 1 + 1, i, none⟩ (.int .u64 (qv : Int))).cell? ⟨w.heap.size + 1 + 1 + 1, 0, none⟩ = some (.int .u64 (r : Int)) := by
          rw [World.cell?_setCell_other _ _ _ _ (by simp)]; exact e10
        have hfr' : (W.setCell ⟨w.heap.size + 1 + 1, i, none⟩ (.int .u64 (qv : Int))).frozen? ⟨w.heap.size + 1 + 1 + 1, 0, none⟩ = false := by
          rw [World.frozen?_setCell]; exact e11
        refine in_skip hoi rfl (by intro c h; cases h) (fun _ _ => trivial) ?_ (hK q0)
        simp [execOp, Act.eval, t6, t24, go_sem, stored, hcr', hfr']
        rfl
    case hend =>
      intro L q hL
      rw [wor2_both (hL 11 (by decide))]
      generalize wrote _ _ _ _ _ = TT
      gi_wp2
      have hB2 : Below w.heap.size W ((W.setCell ⟨w.heap.size + 1 + 1, i, none⟩ (.int .u64 (qv : Int))).setCell ⟨w.heap.size + 1 + 1 + 1, 0, none⟩ (.int .u64 (rv : Int))) :=
        ((Below.refl _ W).setCell (p := ⟨w.heap.size + 1 + 1, i, none⟩) (by show _ ≤ w.heap.size + 1 + 1; omega) _).setCell (p := ⟨w.heap.size + 1 + 1 + 1, 0, none⟩) (by show _ ≤ w.heap.size + 1 + 1 + 1; omega) _
      have hqb : qv < b64 := by
        rw [HQV.out]
        apply Nat.div_lt_of_lt_mul
        have h1 : (r + 1) * b64 ≤ d * b64 := Nat.mul_le_mul_right _ e4
        rw [Nat.add_mul, Nat.one_mul] at h1
        omega
      refine ⟨keeps_drewN (((KeepsOthers.setCell W ⟨w.heap.size + 1 + 1, i, none⟩ (.int .u64 (qv : Int))).trans (KeepsOthers.setCell _ ⟨w.heap.size + 1 + 1 + 1, 0, none⟩ (.int .u64 (rv : Int)))).from _) _, ⟨below_drewN hB2 _, ?_⟩, ⟨zs.set i qv, rv, ?_, by simp [HE2.out], e3.set _ hqb, by rw [HRV.out]; exact Nat.mod_lt _ hd0, fun hl => by rw [HRV.out]; exact hOk r xv hok hxl (by simp at hl; omega), ?_, ?_, ?_, ?_, ?_, ?_⟩, hB.trans (below_drewN hB2 _)⟩
      · rw [World.heap_drewN, Below.heap_setCell _ _ _ _ (by show _ ≠ w.heap.size + 1 + 1 + 1; omega), Below.heap_setCell _ _ _ _ (by show _ ≠ w.heap.size + 1 + 1; omega)]
      · rw [List.map_append, List.map_singleton, sq_snoc, HE1.out]
        unfold sqStep
        simp only [HXV.out, Option.getD_some]
        rw [← HQV.out, ← HRV.out]
      · exact (Row.set (w := W) e6 i qv).far (p := ⟨w.heap.size + 1 + 1 + 1, 0, none⟩) (by show _ ≠ w.heap.size + 1 + 1 + 1; omega) _
      · rw [World.cell?_drewN, World.cell?_setCell_other _ _ _ _ (by simp), World.cell?_setCell_other _ _ _ _ (by simp)]; exact e7
      · rw [World.cell?_drewN, World.cell?_setCell_other _ _ _ _ (by simp), World.cell?_setCell_other _ _ _ _ (by simp)]; exact e8
      · rw [World.frozen?_drewN, World.frozen?_setCell, World.frozen?_setCell]; exact e9
      · rw [World.cell?_drewN]; exact World.cell?_setCell_same' _ _ _ (by rw [World.cell?_setCell_other _ _ _ _ (by simp)]; rw [e10]; rfl)
      · rw [World.frozen?_drewN, World.frozen?_setCell, World.frozen?_setCell]; exact e11
  case done =>
    rintro D ds W hD hds ⟨⟨zs, r, e1, e2, e3, e4, e5, e6, e7, e8, e9, e10, e11⟩, hB⟩ hK
    rw [hds] at e1
    have HE1 := Lib.hid e1
    have HE2 := Lib.hid e2
    have hrl : r < b64 := by omega
    clear e1 e2 hds
    have hmx : Try.prog.follows .mixedOrders = true := by kernel_rfl
    have hsl := e6.sl (by rw [HE2.out]; omega)
    rw [HE2.out] at hsl
    have hsl2 : Sl W.drew W.heap.size (some ⟨w.heap.size + 1 + 1, 0, none⟩) n n zs := hsl
    have hlt1 : w.heap.size + 1 < W.heap.size := by have := hB.size; have := e6.lt; omega
    gi_wp2
    have hDlt : D < W.heap.size := (Array.getElem?_eq_some_iff.1 hK).1
    have q2 : (W.alloc (.cells #[.int .u64 (r : Int)] 58)).cell? ⟨w.heap.size + 1, 0, none⟩ = some (.slice (some ⟨w.heap.size + 1 + 1, 0, none⟩) n n) := (World.cell?_alloc_lt _ _ _ hlt1).trans e8
    have q3 : (W.alloc (.cells #[.int .u64 (r : Int)] 58)).frozen? ⟨w.heap.size + 1, 0, none⟩ = false := ((Below.refl W.heap.size W).alloc (Nat.le_refl _) _).frozen (p := ⟨w.heap.size + 1, 0, none⟩) hlt1 |>.trans e9
    have hKF : ((W.drew.alloc (.cells #[.int .u64 (r : Int)] 58)).setCell ⟨w.heap.size + 1, 0, none⟩ (.slice (some ⟨w.heap.size + 1 + 1, 0, none⟩) (trimL zs n) n)).heap[D]? = some (.deferred (some [])) :=
      (KeepsOthers.setCell _ _ _).same D _ ((Below.heap_alloc W.drew _ D hDlt).trans hK) rfl
    have rowF := ((Row.alloc (w := W.drew) e6 (.cells #[.int .u64 (r : Int)] 58))).far (p := ⟨w.heap.size + 1, 0, none⟩) (by show w.heap.size + 1 + 1 ≠ w.heap.size + 1; omega) (.slice (some ⟨w.heap.size + 1 + 1, 0, none⟩) (trimL zs n) n)
    have rowR := (heap_new_row W.drew r).far (p := ⟨w.heap.size + 1, 0, none⟩) (by show W.heap.size ≠ w.heap.size + 1; omega) (.slice (some ⟨w.heap.size + 1 + 1, 0, none⟩) (trimL zs n) n)
    have cellF := World.cell?_setCell_same' (W.drew.alloc (.cells #[.int .u64 (r : Int)] 58)) ⟨w.heap.size + 1, 0, none⟩ (.slice (some ⟨w.heap.size + 1 + 1, 0, none⟩) (trimL zs n) n) (by rw [show (W.drew.alloc (.cells #[.int .u64 (r : Int)] 58)).cell? _ = _ from q2]; rfl)
    have belF : Below w.heap.size w ((W.drew.alloc (.cells #[.int .u64 (r : Int)] 58)).setCell ⟨w.heap.size + 1, 0, none⟩ (.slice (some ⟨w.heap.size + 1 + 1, 0, none⟩) (trimL zs n) n)) :=
      (hB.drew.alloc (by have := hB.size; exact this) _).setCell (p := ⟨w.heap.size + 1, 0, none⟩) (by show _ ≤ w.heap.size + 1; omega) _
    have FIN : ∀ {WF : World}, WF.heap[D]? = some (.deferred (some [])) → Row WF (w.heap.size + 1 + 1) zs → Row WF W.drew.heap.size [r] → Below w.heap.size w WF → ∃ A1 m1 c1 q A2 m2 c2 r', Ending.returned (.tuple #[.slice (some ⟨w.heap.size + 1 + 1, 0, none⟩) (trimL zs n) n, .slice (some ⟨W.drew.heap.size, 0, none⟩) (trimL [r] 1) 1]) = .returned (.tuple #[.slice A1 m1 c1, .slice A2 m2 c2]) ∧
        Sl (WF.putObj D (.deferred none)) (WF.putObj D (.deferred none)).heap.size A1 m1 c1 q ∧ Sl (WF.putObj D (.deferred none)) (WF.putObj D (.deferred none)).heap.size A2 m2 c2 r' ∧ Below w.heap.size w (WF.putObj D (.deferred none)) ∧
        Nm b64 q (V b64 (sq d xs n (downL n n)).1) ∧ Nm b64 r' (sq d xs n (downL n n)).2 := by
      intro WF k1 k2 k3 k4
      have g := grownBy_putObj' WF D (.deferred none)
      have gr : ∀ r', some D = some r' → ∃ o, WF.heap[r']? = some o ∧ o.isCells = false := fun r' e => by cases e; exact ⟨_, k1, rfl⟩
      have z1 := sl_trim ((row_kept k2 g gr).sl (by rw [HE2.out]; omega))
      have z2 := sl_trim ((row_kept k3 g gr).sl (by simp))
      rw [HE2.out] at z1
      refine ⟨_, _, _, _, _, _, _, _, rfl, z1, z2, k4.trans (belowK_b (w := W0) (by rw [HSZ.out]; omega) _ D _ _ hD k1 rfl rfl), ?_, ?_⟩
      · rw [HE1.out]; exact trimmed_nm e3
      · rw [HE1.out]
        have := trimmed_nm (B := b64) (xs := [r]) (fun y hy => by simp at hy; subst hy; exact hrl)
        simpa [V] using this
    refine wpIn_region_any hmx ?_
    show wpAnyIn _ _ _ _ _ _ 6 _ _ _
    refine any2 (i := 0) (j := 2) (by kernel_rfl) ?_ ?_
    · skip
      refine in_value (v := .slice (some ⟨w.heap.size + 1 + 1, 0, none⟩) n n) (w' := W.drew) rfl rfl (by intro c h; cases h) (fun _ _ => trivial) (by simp [execOp, Act.eval, go_sem, e8]) ?_
      refine any2 (i := 1) (j := 2) (by kernel_rfl) ?_ ?_
      · skip
        refine in_call_any (f := 38) (args := #[.slice (some ⟨w.heap.size + 1 + 1, 0, none⟩) n n]) rfl rfl (by intro c h; cases h) rfl (fun _ _ => trivial) (by simp [execOp, Act.eval, resolve, invoke, Deferred.ofValue, Act.put, go_sem]) (callsIn_wide.2 ((ltrim_any W.drew _ _ _ _ zs hsl2).mono ?_))
        rintro e w1 ⟨rfl, rfl⟩
        refine ⟨_, rfl, ?_⟩
        refine any1 (i := 2) (by kernel_rfl) ?_
        refine in_value (v := .int .u64 (r : Int)) (w' := W.drew) rfl rfl (by intro c h; cases h) (fun _ _ => trivial) (by simp [execOp, Act.eval, Act.put, go_sem, e10]) ?_
        refine any1 (i := 3) (by kernel_rfl) ?_
        refine in_call_any (f := 59) (args := #[.int .u64 (r : Int)]) rfl rfl (by intro c h; cases h) rfl (fun _ _ => trivial) (by simp [execOp, Act.eval, resolve, invoke, Deferred.ofValue, Act.put, go_sem]) (callsIn_wide.2 ((of_exact r W.drew).mono ?_))
        rintro e w2 ⟨rfl, rfl⟩
        refine ⟨_, rfl, ?_⟩
        refine any1 (i := 4) (by kernel_rfl) ?_
        refine in_skip (w' := (W.drew.alloc (.cells #[.int .u64 (r : Int)] 58)).setCell ⟨w.heap.size + 1, 0, none⟩ (.slice (some ⟨w.heap.size + 1 + 1, 0, none⟩) (trimL zs n) n)) rfl rfl (by intro c h; cases h) (fun _ _ => trivial) (by simp [execOp, Act.eval, Act.put, go_sem, stored, q2, q3]) ?_
        refine any1 (i := 5) (by kernel_rfl) ?_
        refine in_value (v := .slice (some ⟨W.drew.heap.size, 0, none⟩) (trimL [r] 1) 1) (w' := (W.drew.alloc (.cells #[.int .u64 (r : Int)] 58)).setCell ⟨w.heap.size + 1, 0, none⟩ (.slice (some ⟨w.heap.size + 1 + 1, 0, none⟩) (trimL zs n) n)) rfl rfl (by intro c h; cases h) (fun _ _ => trivial) (by simp [execOp, Act.eval, Act.put]) ?_
        refine any0 (by kernel_rfl) ?_
        generalize hWF : (W.drew.alloc (.cells #[.int .u64 (r : Int)] 58)).setCell ⟨w.heap.size + 1, 0, none⟩ (.slice (some ⟨w.heap.size + 1 + 1, 0, none⟩) (trimL zs n) n) = WF
        rw [hWF] at hKF rowF rowR cellF belF
        clear hWF
        gi_wp2
        refine ⟨by simp, .inl ⟨_, _, rfl, run_takeDeferred hKF, ?_⟩⟩
        refine ⟨.tuple #[.slice (some ⟨w.heap.size + 1 + 1, 0, none⟩) (trimL zs n) n, .slice (some ⟨W.drew.heap.size, 0, none⟩) (trimL [r] 1) 1], ?_, FIN hKF rowF rowR belF⟩
        have hc5 := cell_kept cellF (grownBy_putObj' _ D (.deferred none)) (fun r e => by cases e; exact ⟨_, hKF, rfl⟩)
        simp [results, Try.f45, go_sem, hc5]
      · skip
        refine in_value (v := .int .u64 (r : Int)) (w' := W.drew) rfl rfl (by intro c h; cases h) (fun _ _ => trivial) (by simp [execOp, Act.eval, Act.put, go_sem, e10]) ?_
        refine any1 (i := 1) (by kernel_rfl) ?_
        refine in_call_any (f := 38) (args := #[.slice (some ⟨w.heap.size + 1 + 1, 0, none⟩) n n]) rfl rfl (by intro c h; cases h) rfl (fun _ _ => trivial) (by simp [execOp, Act.eval, resolve, invoke, Deferred.ofValue, Act.put, go_sem]) (callsIn_wide.2 ((ltrim_any W.drew _ _ _ _ zs hsl2).mono ?_))
        rintro e w1 ⟨rfl, rfl⟩
        refine ⟨_, rfl, ?_⟩
        refine any1 (i := 3) (by kernel_rfl) ?_
        refine in_call_any (f := 59) (args := #[.int .u64 (r : Int)]) rfl rfl (by intro c h; cases h) rfl (fun _ _ => trivial) (by simp [execOp, Act.eval, resolve, invoke, Deferred.ofValue, Act.put, go_sem]) (callsIn_wide.2 ((of_exact r W.drew).mono ?_))
        rintro e w2 ⟨rfl, rfl⟩
        refine ⟨_, rfl, ?_⟩
        refine any1 (i := 4) (by kernel_rfl) ?_
        refine in_skip (w' := (W.drew.alloc (.cells #[.int .u64 (r : Int)] 58)).setCell ⟨w.heap.size + 1, 0, none⟩ (.slice (some ⟨w.heap.size + 1 + 1, 0, none⟩) (trimL zs n) n)) rfl rfl (by intro c h; cases h) (fun _ _ => trivial) (by simp [execOp, Act.eval, Act.put, go_sem, stored, q2, q3]) ?_
        refine any1 (i := 5) (by kernel_rfl) ?_
        refine in_value (v := .slice (some ⟨W.drew.heap.size, 0, none⟩) (trimL [r] 1) 1) (w' := (W.drew.alloc (.cells #[.int .u64 (r : Int)] 58)).setCell ⟨w.heap.size + 1, 0, none⟩ (.slice (some ⟨w.heap.size + 1 + 1, 0, none⟩) (trimL zs n) n)) rfl rfl (by intro c h; cases h) (fun _ _ => trivial) (by simp [execOp, Act.eval, Act.put]) ?_
        refine any0 (by kernel_rfl) ?_
        generalize hWF : (W.drew.alloc (.cells #[.int .u64 (r : Int)] 58)).setCell ⟨w.heap.size + 1, 0, none⟩ (.slice (some ⟨w.heap.size + 1 + 1, 0, none⟩) (trimL zs n) n) = WF
        rw [hWF] at hKF rowF rowR cellF belF
        clear hWF
        gi_wp2
        refine ⟨by simp, .inl ⟨_, _, rfl, run_takeDeferred hKF, ?_⟩⟩
        refine ⟨.tuple #[.slice (some ⟨w.heap.size + 1 + 1, 0, none⟩) (trimL zs n) n, .slice (some ⟨W.drew.heap.size, 0, none⟩) (trimL [r] 1) 1], ?_, FIN hKF rowF rowR belF⟩
        have hc5 := cell_kept cellF (grownBy_putObj' _ D (.deferred none)) (fun r e => by cases e; exact ⟨_, hKF, rfl⟩)
        simp [results, Try.f45, go_sem, hc5]
    · skip
      refine in_value (v := .int .u64 (r : Int)) (w' := W.drew) rfl rfl (by intro c h; cases h) (fun _ _ => trivial) (by simp [execOp, Act.eval, go_sem, e10]) ?_
      refine any1 (i := 0) (by kernel_rfl) ?_
      refine in_value (v := .slice (some ⟨w.heap.size + 1 + 1, 0, none⟩) n n) (w' := W.drew) rfl rfl (by intro c h; cases h) (fun _ _ => trivial) (by simp [execOp, Act.eval, Act.put, go_sem, e8]) ?_
      refine any1 (i := 1) (by kernel_rfl) ?_
      refine in_call_any (f := 38) (args := #[.slice (some ⟨w.heap.size + 1 + 1, 0, none⟩) n n]) rfl rfl (by intro c h; cases h) rfl (fun _ _ => trivial) (by simp [execOp, Act.eval, resolve, invoke, Deferred.ofValue, Act.put, go_sem]) (callsIn_wide.2 ((ltrim_any W.drew _ _ _ _ zs hsl2).mono ?_))
      rintro e w1 ⟨rfl, rfl⟩
      refine ⟨_, rfl, ?_⟩
      refine any1 (i := 3) (by kernel_rfl) ?_
      refine in_call_any (f := 59) (args := #[.int .u64 (r : Int)]) rfl rfl (by intro c h; cases h) rfl (fun _ _ => trivial) (by simp [execOp, Act.eval, resolve, invoke, Deferred.ofValue, Act.put, go_sem]) (callsIn_wide.2 ((of_exact r W.drew).mono ?_))
      rintro e w2 ⟨rfl, rfl⟩
      refine ⟨_, rfl, ?_⟩
      refine any1 (i := 4) (by kernel_rfl) ?_
      refine in_skip (w' := (W.drew.alloc (.cells #[.int .u64 (r : Int)] 58)).setCell ⟨w.heap.size + 1, 0, none⟩ (.slice (some ⟨w.heap.size + 1 + 1, 0, none⟩) (trimL zs n) n)) rfl rfl (by intro c h; cases h) (fun _ _ => trivial) (by simp [execOp, Act.eval, Act.put, go_sem, stored, q2, q3]) ?_
      refine any1 (i := 5) (by kernel_rfl) ?_
      refine in_value (v := .slice (some ⟨W.drew.heap.size, 0, none⟩) (trimL [r] 1) 1) (w' := (W.drew.alloc (.cells #[.int .u64 (r : Int)] 58)).setCell ⟨w.heap.size + 1, 0, none⟩ (.slice (some ⟨w.heap.size + 1 + 1, 0, none⟩) (trimL zs n) n)) rfl rfl (by intro c h; cases h) (fun _ _ => trivial) (by simp [execOp, Act.eval, Act.put]) ?_
      refine any0 (by kernel_rfl) ?_
      generalize hWF : (W.drew.alloc (.cells #[.int .u64 (r : Int)] 58)).setCell ⟨w.heap.size + 1, 0, none⟩ (.slice (some ⟨w.heap.size + 1 + 1, 0, none⟩) (trimL zs n) n) = WF
      rw [hWF] at hKF rowF rowR cellF belF
      clear hWF
      gi_wp2
      refine ⟨by simp, .inl ⟨_, _, rfl, run_takeDeferred hKF, ?_⟩⟩
      refine ⟨.tuple #[.slice (some ⟨w.heap.size + 1 + 1, 0, none⟩) (trimL zs n) n, .slice (some ⟨W.drew.heap.size, 0, none⟩) (trimL [r] 1) 1], ?_, FIN hKF rowF rowR belF⟩
      have hc5 := cell_kept cellF (grownBy_putObj' _ D (.deferred none)) (fun r e => by cases e; exact ⟨_, hKF, rfl⟩)
      simp [results, Try.f45, go_sem, hc5]
  case stop =>
    rintro D c pre W _ _ h _
    exact h.elim
end Go.Proofs.Ytfiakaenenbhpaa
