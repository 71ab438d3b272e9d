/- drbg: Bytes. -/
import Derived.Test.YtnpaidieijlkkaaDoorQDc
import Derived.Test.YtnpaidieijlkkaaDoorQStillR
set_option linter.unusedVariables false
set_option linter.unusedSimpArgs false
namespace Go.Proofs.YtnpaidieijlkkaaDoor
open Go.RowKit Go.Shelf
attribute [local go_sem] Oper.semAt_some

section
variable {F : Fence} {n : Nat} {P : Program} {t e : TypeId} {z : Value} {sz : Nat} {w : World} {ops : Array Oper} {rest : List Oper} {o : Oper} {a : Act} {Q : Exit → Act → World → Prop}
theorem wlv_make_in (E : Elem P t e z sz) (hg : o.guard = none) (l : Operand)
    (hop : o.op = Op.makeSlice t l l) (N : Int) (m : Nat) (hl : a.eval l = .int .i64 N) (hN : N = m) (hn : m ≤ 17592186044416)
    (h : ∀ w', RowV e w' w.heap.size (List.replicate m z) → Below w.heap.size w w' → w'.heap.size = w.heap.size + 1 → wpListIn F n P ops Q rest (a.put o.dst (.slice (some ⟨w.heap.size, 0, none⟩) m m)) w') :
    wpListIn F n P ops Q (o :: rest) a w := by
  obtain ⟨i0, hi, hz0, hz1, hz2⟩ := info_parts E.info
  subst hN
  have hb : (i0.bytes : Int) * (m : Int) ≤ 281474976710656 := by
    rw [hz2]
    have h1 : sz * m ≤ 8 * 17592186044416 := Nat.mul_le_mul E.b8 hn
    have h2 : ((sz * m : Nat) : Int) ≤ 8 * 17592186044416 := by omega
    rw [Int.natCast_mul] at h2
    omega
  have hr := run_make (P := P) w t e i0 z E.sl hi hz0 .i64 .i64 m m (by omega) (by omega) hb (by omega)
  simp only [Int.toNat_natCast] at hr
  refine wpListIn_value (w' := w.alloc (.cells (List.replicate m z).toArray e (0, 0))) hg (by rw [hop]; intro c hc; cases hc) (fun f hf => by simp [Oper.about, hop] at hf) ?_ (h _ (RowV.new _ _ _) ((Below.refl _ _).alloc (Nat.le_refl _) _) (by simp))
  have e2 : madeCells z.cells m = (List.replicate m z).toArray := by
    apply Array.ext'
    rw [E.one, toList_madeCells_one]
  simp only [execOp, hop, hl, hr, Result.andThen, hz1, Nat.mul_one, e2, Sem.run_bind, Sem.run_pure]
end
/-- two writing operations, one behind the other: places i and j -/
def worD (V0 V1 V2 : World) (i j : Nat) (L : Array Bool) : World := if L.getD j false then V2 else if L.getD i false then V1 else V0
theorem worD_other {V0 V1 V2 : World} {i j : Nat} (L : Array Bool) {k : Nat} (h1 : k ≠ i) (h2 : k ≠ j) : worD V0 V1 V2 i j (L.setIfInBounds k true) = worD V0 V1 V2 i j L := by
  unfold worD
  rw [getD_set_other L h1, getD_set_other L h2]
theorem worD_none {V0 V1 V2 : World} {i j : Nat} {L : Array Bool} (h1 : L.getD i false = false) (h2 : L.getD j false = false) : worD V0 V1 V2 i j L = V0 := by unfold worD; rw [h1, h2]; rfl
theorem worD_first {V0 V1 V2 : World} {i j : Nat} {L : Array Bool} (h1 : L.getD i false = true) (h2 : L.getD j false = false) : worD V0 V1 V2 i j L = V1 := by unfold worD; rw [h1, h2]; rfl
theorem worD_both {V0 V1 V2 : World} {i j : Nat} {L : Array Bool} (h2 : L.getD j false = true) : worD V0 V1 V2 i j L = V2 := by unfold worD; rw [h2]; rfl
theorem setCells_drewN (g q : Nat) : ∀ (ys : List Value) (o : Nat) (w : World), (w.drewN q).setCells g o ys = (w.setCells g o ys).drewN q
  | [], _, _ => rfl
  | y :: r, o, w => setCells_drewN g q r (o + 1) (w.setCell ⟨g, o, none⟩ y)
/-- what comes, and the state behind it -/
def bytesL (key val : List (BitVec 8)) (N : Nat) : List (BitVec 8) := fillL (fun i => vIter key val (i + 1)) N
def bytesS (key val : List (BitVec 8)) (N : Nat) : List (BitVec 8) × List (BitVec 8) := updL (key, vIter key val ((N + 31) / 32)) []
theorem dvalues_any (w : World) (g : Nat) : Calls Tryd.prog 41 #[.pointer (some ⟨g, 0, none⟩)] w fun e w' => e = .returned (.func (.func 71) #[] #[.pointer (some ⟨w.heap.size, 0, none⟩)]) ∧ BxE w.heap.size (.pointer (some ⟨g, 0, none⟩)) w' ∧ Below w.heap.size w w' := by
  obtain ⟨W1, e1, hB1, b1, s1⟩ := newBox w 25 (.pointer (some ⟨g, 0, none⟩))
  have HB := Lib.hid hB1
  have H1 := Lib.hid b1
  clear hB1 b1 s1
  go_enter Tryd.func41, Tryd.ntmps41
  go_wp2
  go_ret
  exact ⟨rfl, H1.out, HB.out⟩
theorem DrbgR.calls_ {w : World} {g : Nat} {key val : List (BitVec 8)} {calls : Int} (h : DrbgR w g key val calls) : w.cell? ⟨g, 64, none⟩ = some (.int .i64 calls) := h.row.at_ (by
  rw [dL, List.getElem?_append_right (by simp [h.hk]), List.length_map, h.hk, List.getElem?_append_right (by simp [h.hv]), List.length_map, h.hv]; rfl)
theorem DrbgR.putCalls {w : World} {g : Nat} {key val : List (BitVec 8)} {calls : Int} (h : DrbgR w g key val calls) (c : Int) : DrbgR (w.setCell ⟨g, 64, none⟩ (.int .i64 c)) g key val c := ⟨h.hk, h.hv, by
  have h2 := h.row.set 64 (.int .i64 c)
  have : (dL key val calls).set 64 (.int .i64 c) = dL key val c := by
    rw [dL, List.set_append_right _ _ (by simp [h.hk]), List.length_map, h.hk, List.set_append_right _ _ (by simp [h.hv]), List.length_map, h.hv]; rfl
  rwa [this] at h2⟩
/-- ahead of a round -/
def ByI (w : World) (g o x6 : Nat) (key val : List (BitVec 8)) (N : Nat) (pre : List (List (BitVec 8))) (W : World) : Prop :=
  32 * pre.length < N ∧ OnlyV w W g ∧ RowV 5 W o ((seqL (fun i => vIter key val (i + 1)) pre.length ++ List.replicate (N - 32 * pre.length) 0).map W8) ∧ BxE x6 (.slice (some ⟨o, 32 * pre.length, none⟩) (N - 32 * pre.length) (N - 32 * pre.length)) W
/-- all has come -/
def ByX (w : World) (g o : Nat) (key val : List (BitVec 8)) (calls : Int) (N : Nat) (pre : List (List (BitVec 8))) (W : World) : Prop :=
  pre.length = (N + 31) / 32 ∧ OnlyV w W g ∧ RowV 5 W o ((bytesL key val N).map W8) ∧ DrbgR W g key (vIter key val pre.length) calls
theorem OnlyV.new' {a b c : World} {g o : Nat} (h : OnlyV a b g) (k : OnlyV b c o) (ho : a.heap.size ≤ o) : OnlyV a c g :=
  ⟨k.os.trans h.os, k.tape.trans h.tape, k.output.trans h.output, Nat.le_trans h.size k.size, fun i hi hn => (k.block i (Nat.lt_of_lt_of_le hi h.size) (fun e => by injection e; omega)).trans (h.block i hi hn)⟩
theorem OnlyV.grown' {a w w' : World} {g : Nat} (h : OnlyV a w g) (hg : w.grownBy w' (some g)) : OnlyV a w' g := h.trans hg
theorem RowV.grownG {t : TypeId} {A B : World} {b g : Nat} {vs : List Value} (h : RowV t A b vs) (hg : A.grownBy B (some g)) (hn : b ≠ g) : RowV t B b vs := (hg.block b h.lt (fun e => hn (by injection e))).trans h
theorem BxE.grownG {A B : World} {b g : Nat} {v : Value} (h : BxE b v A) (hg : A.grownBy B (some g)) (hn : b ≠ g) : BxE b v B := h.block hg.size (hg.block b h.2.2 (fun e => hn (by injection e)))
set_option maxRecDepth 100000 in
set_option maxHeartbeats 4000000 in
theorem dbytes_any (w : World) (g : Nat) (hg1 : 4 < g) (key val : List (BitVec 8)) (calls : Int) (hc0 : 0 ≤ calls) (hc1 : calls ≤ 1000000) (h : DrbgR w g key val calls) (hGS : StartsG w) (hGR : RootsG w) (N : Nat) (hN1 : 1 ≤ N) (hN2 : N ≤ 65536) :
    Calls Tryd.prog 15 #[.pointer (some ⟨g, 0, none⟩), .int .i64 (N : Int)] w fun e w' => ∃ o, e = .returned (.slice (some ⟨o, 0, none⟩) N N) ∧ w.heap.size ≤ o ∧ RowV 5 w' o ((bytesL key val N).map W8) ∧ DrbgR w' g (bytesS key val N).1 (bytesS key val N).2 (calls + 1) ∧ OnlyV w w' g := by
  have hgl := h.row.lt
  obtain ⟨o, ho⟩ : ∃ o, w.heap.size = o := ⟨_, rfl⟩
  have kN1 : (1 : Int) ≤ N := by omega
  have kN2 : (N : Int) ≤ 65536 := by omega
  have HD := Lib.hid h
  have HG := Lib.hid (⟨hGS, hGR⟩ : StartsG w ∧ RootsG w)
  have HO := Lib.hid ho
  clear h hGS hGR
  refine (callsIn_wide (n := 9)).1 ?_
  refine callsIn_of_wp_marks Tryd.func15 rfl trivial ?_ rfl
  simp only [Tryd.ntmps15, List.size_toArray, List.length_cons, List.length_nil, Nat.reduceAdd, Nat.reduceSub, Array.replicate_succ, Array.replicate_zero, List.push_toArray, List.append_toArray, List.nil_append, List.cons_append]
  gi_wp2_with (refine wlv_make_in Tryd.elem8 rfl _ rfl _ N rfl rfl (by omega) ?_; intro W1 r1 b1 z1)
  rw [ho] at r1
  obtain ⟨W2, e2, hB2, b2, s2⟩ := newBox W1 22 (.slice (some ⟨o, 0, none⟩) N N)
  have hx6 : W1.heap.size = o + 1 := by omega
  rw [hx6] at b2
  have hv := dvalues_any W2 g
  have hs2 : W2.heap.size = o + 2 := by omega
  rw [hs2] at hv
  rw [e2]
  refine ⟨trivial, (callsIn_wide.2 hv).mono ?_⟩
  rintro e W3 ⟨rfl, hbx, hb3⟩
  have h02 : Below w.heap.size w W2 := b1.trans (hB2.mono b1.size)
  have h03 : Below w.heap.size w W3 := h02.trans (hb3.mono (by omega))
  have hrow3 : RowV 5 W3 o (List.replicate N (.int .u8 0)) := (r1.later hB2).below hb3 (by omega)
  have hbox3 : BxE (o + 1) (.slice (some ⟨o, 0, none⟩) N N) W3 := b2.later (by rw [hs2]; exact hb3)
  have hd3 := HD.out.later h03
  have hseq := values1_in 8 (by decide) W3 g (o + 2) hg1 (by omega) (by have := HG.out.2.1; omega) key val calls hd3 hbx (HG.out.1.later h03) (HG.out.2.later h03) N hN1
  have HSEQ := Lib.hid hseq
  have H03 := Lib.hid h03
  have HR3 := Lib.hid hrow3
  have HX3 := Lib.hid hbox3
  have HD3 := Lib.hid hd3
  have hsz3 : o + 3 ≤ W3.heap.size := by have := hbx.2.2; omega
  have HBX := Lib.hid hbx
  clear hseq h03 h02 hrow3 hbox3 hd3 hbx hb3 hv b2 hB2 b1 r1 z1 s2 e2 hx6 hs2 ho
  gi_wp2_with fail
  refine wpIn_rangeM rfl (by decide) (gf := 71) (lb := #[.pointer (some ⟨o + 2, 0, none⟩)]) rfl trivial (enters_of Tryd.func71 (by kernel_rfl) rfl)
    (by have := HO.out; omega : g < W3.heap.size) HSEQ.out (fun a b => a.trans b) (fun W l ob ob' hl _ _ _ => KpS.put (by intro q hq; simp only [List.mem_cons, List.not_mem_nil, or_false] at hq; have := HO.out; rcases hq with rfl | rfl | rfl | rfl <;> omega) _) (fun _ => rfl)
    (ByI w g o (o + 1) key val N) (fun c pre W => c = .exit 0 ∧ ByX w g o key val calls N pre W) ?hI ?hIg ?hIN ?hIx (fun pre => VaR.own _ _ _ _ _ pre) ?hI0 (fun A B hA hb => KpS.below hb (by intro q hq; simp only [List.mem_cons, List.not_mem_nil, or_false] at hq; have := HO.out; rcases hq with rfl | rfl | rfl | rfl <;> omega))
    (fun x W a' W' => a' = { tmps := #[.pointer (some ⟨g, 0, none⟩), .int .i64 (N : Int), undef, undef, .slice none 0 0, .slice (some ⟨o, 0, none⟩) N N, .pointer (some ⟨o + 1, 0, none⟩), .pointer (some ⟨W.heap.size, 0, none⟩), .pointer (some ⟨g, 0, none⟩), .bool false, .bool false, .int .i64 (N : Int), .bool (decide ((N : Int) < 1)), .bool (decide ((N : Int) < 1)), .bool (decide ((N : Int) < 1)), .int .i64 (N : Int), .bool (decide (65536 < (N : Int))), .bool (decide ((N : Int) < 1) || decide (65536 < (N : Int))), .int .i64 (N : Int), .slice (some ⟨o, 0, none⟩) N N, .slice (some ⟨o, 0, none⟩) N N, .pointer (some ⟨g, 0, none⟩), .func (.func 71) #[] #[.pointer (some ⟨o + 2, 0, none⟩)], .agg (x.map W8).toArray, undef, undef, undef, undef, undef, undef, undef, undef, undef, undef, undef, undef, undef, undef, undef, undef, undef, undef], defers := [] } ∧ RowV 61 W' W.heap.size (x.map W8)) ?assign ?hAx ?body ?done ?stop
  case hI =>
    rintro s W W' row ⟨h1, h2, h3, h4⟩ hg hr
    exact ⟨h1, h2.grown hg (fun r e => by have := (hr r e).1; have := HO.out; omega), h3.kept hg (fun r e => (hr r e).2), h4.kept hg (fun r e => (hr r e).2)⟩
  case hIg =>
    rintro s A B ⟨h1, h2, h3, h4⟩ hg
    have := HO.out
    exact ⟨h1, h2.grown' hg, h3.grownG hg (by omega), h4.grownG hg (by omega)⟩
  case hIN =>
    rintro s A ⟨h1, _⟩
    omega
  case hIx =>
    rintro c s W W' row ⟨rfl, h1, h2, h3, h4⟩ hg hr
    exact ⟨rfl, h1, h2.grown hg (fun r e => by have := (hr r e).1; have := HO.out; omega), h3.kept hg (fun r e => (hr r e).2), h4.kept hg (fun r e => (hr r e).2)⟩
  case hI0 =>
    refine ⟨by show 32 * 0 < N; omega, OnlyV.of_below H03.out g, ?_, by simpa using HX3.out⟩
    have h := HR3.out
    rw [show (Value.int .u8 0) = W8 0 from rfl, ← List.map_replicate] at h
    exact h
  case assign =>
    rintro l pre x W K hW ⟨hx, hd⟩ hK
    have hxl := hd.hv
    rw [← hx] at hxl
    obtain ⟨W1', e1', r1', b1', z1'⟩ := newV W 61 (List.replicate 32 (.int .u8 0)) #[.int .u8 0, .int .u8 0, .int .u8 0, .int .u8 0, .int .u8 0, .int .u8 0, .int .u8 0, .int .u8 0, .int .u8 0, .int .u8 0, .int .u8 0, .int .u8 0, .int .u8 0, .int .u8 0, .int .u8 0, .int .u8 0, .int .u8 0, .int .u8 0, .int .u8 0, .int .u8 0, .int .u8 0, .int .u8 0, .int .u8 0, .int .u8 0, .int .u8 0, .int .u8 0, .int .u8 0, .int .u8 0, .int .u8 0, .int .u8 0, .int .u8 0, .int .u8 0] rfl
    obtain ⟨bw, hbw⟩ : ∃ b, W.heap.size = b := ⟨_, rfl⟩
    rw [hbw] at r1'
    have hxm : (x.map W8).toArray.size = 32 := by simpa using hxl
    have hth : W1'.there bw 0 32 := fun j hj => ⟨by
      rw [Nat.zero_add, r1'.cell j, List.getElem?_replicate, if_pos hj]; rfl, r1'.frozen _⟩
    obtain ⟨W2', e2'⟩ : ∃ V, W1'.setCells bw 0 (x.map W8).toArray.toList = V := ⟨_, rfl⟩
    have hr2 : RowV 61 W2' bw (x.map W8) := by
      rw [← e2']
      have h2 := RowV.setCells (x.map W8) 0 _ _ r1'
      have h3 := setL_mid (x.map W8) [] (List.replicate 32 (.int .u8 0)) [] (by simp [hxl])
      simp only [List.length_nil, List.nil_append, List.append_nil] at h3
      rwa [h3] at h2
    have hb2 : Below W.heap.size W W2' := by
      rw [← e2']
      exact b1'.trans ((OnlyV.sets (g := bw) _ _ _ (OnlyV.refl _ _)).below (by omega) (by omega))
    rw [← hbw] at hr2
    have hKK := hK _ _ hb2 ⟨rfl, hr2⟩
    rw [hbw] at hKK
    have HKK := Lib.hid hKK
    clear hKK hK hx hd hr2 hb2
    gi_wp2_with (refine wpListIn_store_mid rfl 61 _ _ rfl bw 0 (x.map W8).toArray rfl rfl (by rw [hxm]; exact hth) (by rw [hxm]; exact Tryd.arr328) (all_oneCell_toArray (ones8 x)) ?_)
    exact HKK.out
  case hAx =>
    rintro x W a' W' o' ⟨h1, h2⟩ l ob _ hl ho hc
    exact ⟨h1, (World.putObj_heap_other (by omega)).trans h2⟩
  case body =>
    rintro l pre x W0 a' W hW0 ⟨rfl, hrv⟩ ⟨hI1, hI2, hI3, hI4⟩ ⟨hx, hd⟩
    obtain ⟨bw, hbw⟩ : ∃ b, W0.heap.size = b := ⟨_, rfl⟩
    rw [hbw] at hrv ⊢
    have hbo : o + 3 ≤ bw := by omega
    have hxl : x.length = 32 := by rw [hx]; exact hd.hv
    obtain ⟨j, hj⟩ : ∃ j, pre.length = j := ⟨_, rfl⟩
    rw [hj] at hI1 hI3 hI4 hd hx
    obtain ⟨p, hp⟩ : ∃ p, 32 * j = p := ⟨_, rfl⟩
    obtain ⟨r, hr⟩ : ∃ r, N - p = r := ⟨_, rfl⟩
    rw [hp] at hI1 hI3 hI4
    rw [hr] at hI3 hI4
    obtain ⟨m, hm⟩ : ∃ m, min r 32 = m := ⟨_, rfl⟩
    have q6 := hI4.1
    have f6 := hI4.2.1
    have hrow := hI3
    have hrvV := hrv
    have hseql : (seqL (fun i => vIter key val (i + 1)) j).length = p := by rw [seqL_length _ 32 (fun i => vIter_length _ _ (by have := HD.out.hv; exact this) _), hp]
    have hxm : (x.map W8).length = 32 := by rw [List.length_map, hxl]
    obtain ⟨xs, hxs⟩ : ∃ l, (x.map W8).take m = l := ⟨_, rfl⟩
    have hxsl : xs.length = m := by rw [← hxs, List.length_take, hxm]; omega
    have hcp : ∀ ty (q : Nat), (Builtin.copy_ #[22, 22] ty #[.slice (some ⟨o, p, none⟩) r r, .slice (some ⟨bw, 0, none⟩) 32 32]).run Tryd.prog (W.drewN q) = .ok (goInt xs.length) ((W.setCells o p xs).drewN q) := fun ty q => by
      rw [← setCells_drewN]
      obtain ⟨i0, hi, hz0, hz1, hz2⟩ := info_parts Tryd.elem8.info
      refine run_copy_cells (W.drewN q) _ _ ty 5 o p r r ⟨bw, 0, none⟩ 32 32 xs Tryd.underlying22 (by rw [hi]; simp [hz1]) (by rw [hxsl, ← hm]; exact Nat.min_comm _ _) (fun k v hv => ?_) (fun k hk => ?_) (fun k hk => hrow.frozen _) (fun v hv => ?_)
      · rw [Addr.add_lit, Nat.zero_add, World.cell?_drewN]
        refine hrvV.at_ ?_
        rw [← hxs, List.getElem?_take] at hv
        split at hv
        · exact hv
        · cases hv
      · rw [World.cell?_drewN, hrow.cell, List.getElem?_eq_getElem (by rw [List.length_map, List.length_append, hseql, List.length_replicate]; omega)]
        rfl
      · rw [← hxs] at hv
        exact ones8 x v (List.mem_of_mem_take hv)
    rw [hxsl] at hcp
    obtain ⟨V1, e1⟩ : ∃ U, W.setCells o p xs = U := ⟨_, rfl⟩
    rw [e1] at hcp
    have ho1 : OnlyV W V1 o := by rw [← e1]; exact OnlyV.sets _ _ _ (OnlyV.refl _ _)
    have hx61 := hI4.grownG ho1 (by omega)
    have hrow1 : RowV 5 V1 o ((seqL (fun i => vIter key val (i + 1)) j).map W8 ++ (xs ++ List.replicate (r - m) (W8 0))) := by
      have h2 := RowV.setCells xs p _ _ hrow
      rw [e1, List.map_append, List.map_replicate, show List.replicate r (W8 0) = List.replicate m (W8 0) ++ List.replicate (r - m) (W8 0) by rw [List.replicate_append_replicate]; congr 1; omega] at h2
      have h3 := setL_mid xs ((seqL (fun i => vIter key val (i + 1)) j).map W8) (List.replicate m (W8 0)) (List.replicate (r - m) (W8 0)) (by rw [List.length_replicate, hxsl])
      rw [List.length_map, hseql] at h3
      rw [h3] at h2
      exact h2
    have hd1 : DrbgR V1 g key (vIter key val (j + 1)) calls := ⟨hd.hk, hd.hv, hd.row.grownG ho1 (by have := HO.out; omega)⟩
    have q61 := hx61.1
    have f61 := hx61.2.1
    have HX61 := Lib.hid hx61
    have HROW1 := Lib.hid hrow1
    have HD1 := Lib.hid hd1
    have HO1 := Lib.hid ho1
    have HI2 := Lib.hid hI2
    have HXS := Lib.hid (⟨hxs, hxsl, hseql, hxm⟩ : (x.map W8).take m = xs ∧ xs.length = m ∧ (seqL (fun i => vIter key val (i + 1)) j).length = p ∧ (x.map W8).length = 32)
    have HXX := Lib.hid hx
    have HJ := Lib.hid hj
    have HP := Lib.hid hp
    have HR := Lib.hid hr
    have HM := Lib.hid hm
    have HBW := Lib.hid (show bw < W.heap.size from hrv.lt)
    clear hx61 hrow1 hd1 ho1 hI2 hI3 hI4 hrv hd hx hj hp hr hm hxs hxsl hseql hxm hrvV hrow hbw
    have kr : (r : Int) ≤ 65536 := by have := HR.out; omega
    have km0 : (0 : Int) ≤ m := by omega
    have kmr : (m : Int) ≤ r := by have := HM.out; omega
    obtain ⟨S', hS'⟩ : ∃ S', Value.slice (if r = m then some ⟨o, p, none⟩ else some ⟨o, p + m, none⟩) (r - m) (r - m) = S' := ⟨_, rfl⟩
    obtain ⟨V2, e2⟩ : ∃ U, V1.setCell ⟨o + 1, 0, none⟩ S' = U := ⟨_, rfl⟩
    have q62 : BxE (o + 1) S' V2 := by rw [← e2]; exact HX61.out.set _
    have HQ62 := Lib.hid q62
    have hmx : Tryd.prog.follows .mixedOrders = true := by kernel_rfl
    dsimp only
    gi_wp2_with fail
    refine wpIn_region_inv hmx ?hd
      (fun k => [.slice (some ⟨o, p, none⟩) r r, .slice (some ⟨o, p, none⟩) r r, .slice (some ⟨bw, 0, none⟩) 32 32, .int .i64 (m : Int), S'].getD k undef)
      (worD W V1 V2 3 5) ?hw0 ?hstep ?hend ?hac
    case hd => exact distinct_of (by kernel_rfl)
    case hw0 => exact ⟨1, by rw [worD_none (by kernel_rfl) (by kernel_rfl)]; rfl⟩
    case hac => exact acyclic_of (by kernel_rfl)
    case hstep =>
      intro L a' hs hdf hcl hold hnew i' hi' oi hoi q0 K hK
      obtain ⟨hnl, o2, ho2, hdep⟩ := mem_ready.1 hi'
      obtain rfl : oi = o2 := Option.some.inj (hoi.symm.trans ho2)
      have hlt : i' < 6 := (Array.getElem?_eq_some_iff.1 hoi).1
      have t6 : a'.tmps.getD 6 undef = .pointer (some ⟨o + 1, 0, none⟩) := hold 6 (free_of (by kernel_rfl))
      have t7 : a'.tmps.getD 7 undef = .pointer (some ⟨bw, 0, none⟩) := hold 7 (free_of (by kernel_rfl))
      clear hold
      obtain rfl | rfl | rfl | rfl | rfl | rfl : i' = 0 ∨ i' = 1 ∨ i' = 2 ∨ i' = 3 ∨ i' = 4 ∨ i' = 5 := by omega
      all_goals
        have hoi' := hoi
        simp only [List.getElem?_toArray, List.getElem?_cons_zero, List.getElem?_cons_succ, Option.some.injEq] at hoi'
        subst hoi'
      · have h5 : L.getD 5 false = false := by
          apply Classical.byContradiction
          intro h
          have h2 := hcl 4 _ rfl (hcl 5 _ rfl (by simpa using h) ⟨4, .data⟩ (by simp) rfl) ⟨0, .data⟩ (by simp) rfl
          rw [unlisted hnl] at h2
          cases h2
        have hw : (worD W V1 V2 3 5 L).cell? ⟨o + 1, 0, none⟩ = some (.slice (some ⟨o, p, none⟩) r r) := by
          unfold worD
          rw [h5]
          simp only [Bool.false_eq_true, if_false]
          split
          · exact q61
          · exact q6
        rw [worD_other L (by decide) (by decide)] at hK
        refine in_value hoi rfl (by intro c h; cases h) (fun _ _ => trivial) ?_ (hK q0)
        simp [execOp, Act.eval, t6, hw, go_sem]
      · have h3 : L.getD 3 false = false := by
          apply Classical.byContradiction
          intro h
          have h2 := hcl 3 _ rfl (by simpa using h) ⟨1, .data⟩ (by simp) rfl
          rw [unlisted hnl] at h2
          cases h2
        have h5 : L.getD 5 false = false := by
          apply Classical.byContradiction
          intro h
          have h2 := hcl 4 _ rfl (hcl 5 _ rfl (by simpa using h) ⟨4, .data⟩ (by simp) rfl) ⟨3, .data⟩ (by simp) rfl
          rw [h3] at h2
          cases h2
        rw [worD_other L (by decide) (by decide)] at hK
        rw [worD_none h3 h5] at hK ⊢
        refine in_value hoi rfl (by intro c h; cases h) (fun _ _ => trivial) ?_ (hK q0)
        simp [execOp, Act.eval, t6, q6, go_sem]
      · rw [worD_other L (by decide) (by decide)] at hK
        refine in_value hoi rfl (by intro c h; cases h) (fun _ _ => trivial) ?_ (hK q0)
        simp [execOp, Act.eval, t7, go_sem]
      · have h3 := unlisted hnl
        have h5 : L.getD 5 false = false := by
          apply Classical.byContradiction
          intro h
          have h2 := hcl 4 _ rfl (hcl 5 _ rfl (by simpa using h) ⟨4, .data⟩ (by simp) rfl) ⟨3, .data⟩ (by simp) rfl
          rw [h3] at h2
          cases h2
        have t25 : a'.tmps.getD 25 undef = .slice (some ⟨o, p, none⟩) r r := hnew 1 _ 25 rfl rfl (hdep ⟨1, .data⟩ (by simp) rfl) (by simp)
        have t26 : a'.tmps.getD 26 undef = .slice (some ⟨bw, 0, none⟩) 32 32 := hnew 2 _ 26 rfl rfl (hdep ⟨2, .data⟩ (by simp) rfl) (by simp)
        rw [worD_first (getD_set_self L (by rw [hs]; decide)) (by rw [getD_set_other L (by decide)]; exact h5)] at hK
        rw [worD_none h3 h5]
        refine in_value hoi rfl (by intro c h; cases h) (fun _ _ => trivial) ?_ (hK q0)
        simp [execOp, Act.eval, t25, t26, resolve, invoke, builtin, hcp, goInt, go_sem]
      · have h4 := unlisted hnl
        have h5 : L.getD 5 false = false := by
          apply Classical.byContradiction
          intro h
          have h2 := hcl 5 _ rfl (by simpa using h) ⟨4, .data⟩ (by simp) rfl
          rw [h4] at h2
          cases h2
        have t24 : a'.tmps.getD 24 undef = .slice (some ⟨o, p, none⟩) r r := hnew 0 _ 24 rfl rfl (hdep ⟨0, .data⟩ (by simp) rfl) (by simp)
        have t27 : a'.tmps.getD 27 undef = .int .i64 (m : Int) := hnew 3 _ 27 rfl rfl (hdep ⟨3, .data⟩ (by simp) rfl) (by simp)
        rw [worD_other L (by decide) (by decide)] at hK
        refine in_value hoi rfl (by intro c h; cases h) (fun _ _ => trivial) ?_ (hK q0)
        have hmrN : m ≤ r := by omega
        simp [execOp, Act.eval, t24, t27, go_sem, hmrN, ← hS']
      · have h5 := unlisted hnl
        have t28 : a'.tmps.getD 28 undef = S' := hnew 4 _ 28 rfl rfl (hdep ⟨4, .data⟩ (by simp) rfl) (by simp)
        have h3 : L.getD 3 false = true := hcl 4 _ rfl (hdep ⟨4, .data⟩ (by simp) rfl) ⟨3, .data⟩ (by simp) rfl
        rw [worD_both (getD_set_self L (by rw [hs]; decide))] at hK
        rw [worD_first h3 h5]
        refine in_skip hoi rfl (by intro c h; cases h) (fun _ _ => trivial) ?_ (hK q0)
        subst hS'
        simp [execOp, Act.eval, t6, t28, go_sem, stored, q61, f61]
        rw [← e2]
        rfl
    case hend =>
      intro L q hL
      rw [worD_both (hL 5 (by decide))]
      refine Eq.mpr (congrArg (fun T => Exit.then _ _ Exit.normal { tmps := T, defers := _ } (V2.drewN q)) (show wrote _ _ _ _ _ = #[.pointer (some ⟨g, 0, none⟩), .int .i64 (N : Int), undef, undef, .slice none 0 0, .slice (some ⟨o, 0, none⟩) N N, .pointer (some ⟨o + 1, 0, none⟩), .pointer (some ⟨bw, 0, none⟩), .pointer (some ⟨g, 0, none⟩), .bool false, .bool false, .int .i64 (N : Int), .bool (decide ((N : Int) < 1)), .bool (decide ((N : Int) < 1)), .bool (decide ((N : Int) < 1)), .int .i64 (N : Int), .bool (decide (65536 < (N : Int))), .bool (decide ((N : Int) < 1) || decide (65536 < (N : Int))), .int .i64 (N : Int), .slice (some ⟨o, 0, none⟩) N N, .slice (some ⟨o, 0, none⟩) N N, .pointer (some ⟨g, 0, none⟩), .func (.func 71) #[] #[.pointer (some ⟨o + 2, 0, none⟩)], .agg (x.map W8).toArray, .slice (some ⟨o, p, none⟩) r r, .slice (some ⟨o, p, none⟩) r r, .slice (some ⟨bw, 0, none⟩) 32 32, .int .i64 (m : Int), S', undef, undef, undef, undef, undef, undef, undef, undef, undef, undef, undef, undef, undef] by rfl)) ?_
      dsimp only
      have hoV : OnlyV W V2 o ∨ True := .inr trivial
      have hO1 := HO1.out
      have hw3 := HO.out
      have kf : KeepsFrom W3.heap.size W (V2.drewN q) := by
        rw [← e2]
        exact KeepsFrom.trans (⟨hO1.size, fun k ob hk hh _ => (hO1.block k (Array.getElem?_eq_some_iff.1 hh).1 (fun e => by injection e; omega)).trans hh⟩ : KeepsFrom W3.heap.size W V1) (((KeepsOthers.setCell V1 ⟨o + 1, 0, none⟩ S').from _).trans ⟨Nat.le_refl _, fun _ _ _ h _ => h⟩)
      have hkp : KpS [1, 4, g, o + 2] W (V2.drewN q) := by
        rw [← e2]
        refine ⟨by have := hO1.size; simpa [World.setCell] using this, fun k hk => ?_⟩
        have hko : k ≠ o ∧ k ≠ o + 1 ∧ k < W.heap.size := by
          simp only [List.mem_cons, List.not_mem_nil, or_false] at hk
          have := HI2.out.size
          have := HBW.out
          have := HG.out.2.1
          rcases hk with rfl | rfl | rfl | rfl <;> omega
        exact (Below.heap_setCell V1 ⟨o + 1, 0, none⟩ S' k (by show k ≠ o + 1; exact hko.2.1)).trans (hO1.block k hko.2.2 (fun e => by injection e; omega))
      have hX6 : BxE (o + 1) S' (V2.drewN q) := HQ62.out
      have hrw : RowV 5 (V2.drewN q) o ((seqL (fun i => vIter key val (i + 1)) j).map W8 ++ (xs ++ List.replicate (r - m) (W8 0))) := by
        have h := HROW1.out.far (p := ⟨o + 1, 0, none⟩) (by show o ≠ o + 1; omega) S'
        rw [e2] at h
        exact h
      have hdd : DrbgR (V2.drewN q) g key (vIter key val (j + 1)) calls := by
        have h := HD1.out
        refine ⟨h.hk, h.hv, ?_⟩
        have h2 := h.row.far (p := ⟨o + 1, 0, none⟩) (by show g ≠ o + 1; omega) S'
        rw [e2] at h2
        exact h2
      have hoo : OnlyV w (V2.drewN q) g := by
        have h := (HI2.out.new' hO1 (by omega)).new' ((OnlyV.refl V1 (o + 1)).set 0 S') (by omega)
        rw [e2] at h
        exact h.drewN q
      obtain ⟨U, eU⟩ : ∃ U, V2.drewN q = U := ⟨_, rfl⟩
      rw [eU] at kf hkp hX6 hrw hdd hoo ⊢
      have KF := Lib.hid kf
      have KP := Lib.hid hkp
      have RW := Lib.hid hrw
      have DD := Lib.hid hdd
      have OO := Lib.hid hoo
      have X6 := Lib.hid hX6
      have u6 := hX6.1
      clear kf hkp hrw hdd hoo hoV hO1 hw3 hX6 eU e2 q6 f6 q61 f61 hcp hL q62
      by_cases hfin : r ≤ 32
      · have hmr : m = r := by have := HM.out; omega
        have hSf : S' = .slice (some ⟨o, p, none⟩) 0 0 := by rw [← hS', if_pos hmr.symm, hmr, Nat.sub_self]
        have HSF := Lib.hid hSf
        rw [hSf] at u6
        have HMR := Lib.hid hmr
        clear hS' hSf hmr
        gi_wp2
        refine ⟨KF.out, rfl, ?_, OO.out, ?_, ?_⟩
        · rw [List.length_append, List.length_singleton, HJ.out]
          have := HP.out
          have := HR.out
          omega
        · have h := RW.out
          have hf : bytesL key val N = seqL (fun i => vIter key val (i + 1)) j ++ x.take m := by
            rw [bytesL, ← fillL_eq _ 32 (fun i => vIter_length _ _ (by have := HD.out.hv; exact this) _) (by decide) N (j + 1) (by have := HP.out; have := HR.out; omega), seqL, List.take_append, List.take_of_length_le (by rw [HXS.out.2.2.1]; have := HR.out; omega), HXS.out.2.2.1]
            rw [show N - p = m by have := HR.out; have := HMR.out; omega, ← HXX.out]
          rw [hf, List.map_append, List.map_take, HXS.out.1]
          rw [show r - m = 0 by have := HMR.out; omega] at h
          simpa using h
        · rw [List.length_append, List.length_singleton, HJ.out]
          exact DD.out
      · have hm32 : m = 32 := by have := HM.out; omega
        obtain ⟨r2, hr2⟩ : ∃ r2, r - 32 = r2 := ⟨_, rfl⟩
        have hSf : S' = .slice (some ⟨o, p + 32, none⟩) r2 r2 := by rw [← hS', hm32, if_neg (by omega), hr2]
        have HSF := Lib.hid hSf
        rw [hSf] at u6
        have HM2 := Lib.hid (⟨hm32, hr2, by omega⟩ : m = 32 ∧ r - 32 = r2 ∧ 0 < r2)
        have hr2I : ¬ (r2 : Int) = 0 := by omega
        clear hS' hSf hm32 hr2
        gi_wp2
        refine ⟨KF.out, KP.out, ?_, OO.out, ?_, ?_⟩
        · rw [List.length_append, List.length_singleton, HJ.out]
          have := HP.out
          have := HR.out
          omega
        · rw [List.length_append, List.length_singleton, HJ.out, seqL, List.map_append, List.map_append, List.map_replicate, ← HXX.out, List.append_assoc]
          have h := RW.out
          rw [← HXS.out.1, HM2.out.1, List.take_of_length_le (by rw [HXS.out.2.2.2]; exact Nat.le_refl _)] at h
          rw [show N - 32 * (j + 1) = r - 32 by have := HP.out; have := HR.out; omega]
          exact h
        · rw [List.length_append, List.length_singleton, HJ.out]
          have h := X6.out
          rw [HSF.out] at h
          rw [show 32 * (j + 1) = p + 32 by have := HP.out; omega, show N - (p + 32) = r2 by have := HP.out; have := HR.out; have := HM2.out; omega]
          exact h
  case done =>
    intro D xs W _ h
    exact h.elim
  case stop =>
    rintro D c pre W hD _ ⟨rfl, hl, hO, hrow, hdr⟩ hK
    have hsw := HO.out
    have hDl := (Array.getElem?_eq_some_iff.1 hK).1
    have hu := dupdate_any W g hg1 (key, vIter key val pre.length) calls hdr (HG.out.1.only hO hg1) (HG.out.2.only hO hg1) 0 none 0 0 [] (SlV.nil _ _ _ (by decide)) (fun _ => rfl) (Nat.zero_le _) (by decide)
    rw [show updL (key, vIter key val pre.length) [] = bytesS key val N by rw [bytesS, hl]] at hu
    obtain ⟨kv, hkv⟩ : ∃ kv, bytesS key val N = kv := ⟨_, rfl⟩
    rw [hkv] at hu
    have HU := Lib.hid hu
    have HOO := Lib.hid hO
    have HRW := Lib.hid hrow
    have HKV := Lib.hid hkv
    clear hu hO hrow hdr hl hkv
    gi_wp2_with fail
    refine ⟨trivial, (callsIn_wide.2 HU.out).mono ?_⟩
    rintro e W4 ⟨rfl, hd4, ho4⟩
    have c64 : W4.cell? ⟨g, 64, none⟩ = some (.int .i64 calls) := hd4.calls_
    have f64 := hd4.row.frozen 64
    obtain ⟨W5, e5⟩ : ∃ U, W4.setCell ⟨g, 64, none⟩ (.int .i64 (calls + 1)) = U := ⟨_, rfl⟩
    have hd5 : DrbgR W5 g kv.1 kv.2 (calls + 1) := by rw [← e5]; exact hd4.putCalls _
    have ho5 : OnlyV W W5 g := by rw [← e5]; exact ho4.set 64 _
    have hK5 : W5.heap[D]? = some (.deferred (some [])) := (ho5.block D hDl (fun e => by injection e; omega)).trans hK
    have hr5 : RowV 5 W5 o ((bytesL key val N).map W8) := HRW.out.only ho5 (by omega)
    have hO5 := HOO.out.trans ho5
    have HD5 := Lib.hid hd5
    have HR5 := Lib.hid hr5
    have HO5 := Lib.hid hO5
    have HD9 := Lib.hid (show o ≤ D ∧ D < W5.heap.size from ⟨by omega, (Array.getElem?_eq_some_iff.1 hK5).1⟩)
    clear hd4 ho4 hd5 ho5 hr5 hO5
    gi_wp2
    refine ⟨by simp, .inl ⟨_, _, rfl, run_takeDeferred hK5, ?_⟩⟩
    have hgr := grownBy_putObj' W5 D (.deferred none)
    have hnc : ∀ r, some D = some r → ∃ ob : Obj, W5.heap[r]? = some ob ∧ ob.isCells = false := fun r e => by cases e; exact ⟨_, hK5, rfl⟩
    refine ⟨.slice (some ⟨o, 0, none⟩) N N, by simp [results, Tryd.f15, go_sem], o, rfl, Nat.le_of_eq hsw, HR5.out.kept hgr hnc, ?_, HO5.out.grown hgr (fun r e => by cases e; have := HD9.out; omega)⟩
    rw [HKV.out]
    exact HD5.out.kept hgr hnc
end Go.Proofs.YtnpaidieijlkkaaDoor
