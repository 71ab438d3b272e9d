/- slices.Backward over a row that the loop's body writes; a region's law by a relation. -/
import Derived.Test.YtfiakaenenbhpaaQuoF
namespace Go.Proofs.Ytfiakaenenbhpaa
open Go.RowKit Go.Shelf
attribute [local go_sem] Oper.semAt_some

/-- what a round keeps: all below n₀, the slice's box, and block gq as a row of length n -/
def KpR (n₀ Bs gq n : Nat) (W W' : World) : Prop := Below n₀ W W' ∧ W'.heap[Bs]? = W.heap[Bs]? ∧ (∀ zs, Row W gq zs → zs.length = n → ∃ zs', Row W' gq zs' ∧ zs'.length = n)
theorem KpR.refl (n₀ Bs gq n : Nat) (W : World) : KpR n₀ Bs gq n W W := ⟨Below.refl _ _, rfl, fun zs h hl => ⟨zs, h, hl⟩⟩
theorem KpR.trans {n₀ Bs gq n : Nat} {A B C : World} (h : KpR n₀ Bs gq n A B) (k : KpR n₀ Bs gq n B C) : KpR n₀ Bs gq n A C :=
  ⟨h.1.trans k.1, k.2.1.trans h.2.1, fun zs hr hl => by
    obtain ⟨z1, h1, h2⟩ := h.2.2 zs hr hl
    exact k.2.2 z1 h1 h2⟩
theorem KpR.put {n₀ Bs gq n : Nat} {w : World} (hn : n₀ ≤ w.heap.size) (hb : Bs < w.heap.size) (hq : gq < w.heap.size) (W : World) (l : Nat) (o o' : Obj) (hl : w.heap.size ≤ l) (h : W.heap[l]? = some o) (hc : o.isCells = false) (hw : o.isWalk = false) : KpR n₀ Bs gq n W (W.putObj l o') := by
  have k := KpB.put hn hb W l o o' hl h hc hw
  have k2 := KpB.put hn hq W l o o' hl h hc hw
  exact ⟨k.1, k.2, fun zs hr hz => ⟨zs, k2.2.trans hr, hz⟩⟩
abbrev encR (n : Nat) : Ix n × Nat → Array Value := fun i => #[.int .i64 (i.1.1 : Int), .int .u64 (i.2 : Int)]
def firsts {n : Nat} (l : List (Ix n × Nat)) : List Nat := l.map (·.1.1)
theorem firsts_snoc {n : Nat} (l : List (Ix n × Nat)) (x : Ix n × Nat) : firsts (l ++ [x]) = firsts l ++ [x.1.1] := by simp [firsts]
theorem firsts_length {n : Nat} (l : List (Ix n × Nat)) : (firsts l).length = l.length := by simp [firsts]

set_option maxRecDepth 100000 in
set_option maxHeartbeats 2000000 in
theorem back1R_in (F : Fence) (nn : Nat) (h7 : F.fn 56) (hro : F.round = none) (hn : 1 ≤ nn) (l Bs n₀ n gq : Nat) (hm9 : n ≤ 9223372036854775807) (J Jx : List (Ix n × Nat) → World → Prop)
    (hY : ∀ pre x W, J pre W → pre.length < n → YieldAt F (nn - 1) Try.prog l (encR n x) W fun e W' =>
      (e = .returned (.bool true) ∧ J (pre ++ [x]) W' ∧ KpR n₀ Bs gq n W W') ∨ (e = .returned (.bool false) ∧ Jx (pre ++ [x]) W'))
    (W : World) (hBs : W.cell? ⟨Bs, 0, none⟩ = some (.slice (some ⟨gq, 0, none⟩) n n)) (zs0 : List Nat) (hr0 : Row W gq zs0) (hl0 : zs0.length = n) (h0 : J [] W) :
    CallsIn F nn Try.prog 56 #[.func (.yield l) #[] #[], .pointer (some ⟨Bs, 0, none⟩)] W fun e W' => (∃ v, e = .returned v) ∧
      ((∃ ys : List (Ix n × Nat), firsts ys = downL n n ∧ J ys W') ∨ (∃ pre : List (Ix n × Nat), (∃ k, k ≤ n ∧ firsts pre = downL n k) ∧ Jx pre W')) := by
  have HR0 := Lib.hid (show ∃ zs, Row W gq zs ∧ zs.length = n from ⟨zs0, hr0, hl0⟩)
  clear hr0 hl0 zs0
  refine callsIn_of_wp Try.func56 rfl h7 ?_ hro
  simp only [Try.ntmps56, List.size_toArray, List.length_cons, List.length_nil, Nat.reduceAdd, Nat.reduceSub, Array.replicate_succ, Array.replicate_zero, List.push_toArray, List.append_toArray, List.nil_append, List.cons_append]
  gi_wp2
  gi_loopw [3] (fun i wr => ∃ (m : Nat) (pre : List (Ix n × Nat)), m ≤ n ∧ i = .int .i64 ((m : Int) - 1) ∧ firsts pre = downL n (n - m) ∧ J pre wr ∧ KpR n₀ Bs gq n W wr)
    (fun i _ => (intOf i + 1).toNat)
  case atStart => exact ⟨n, [], Nat.le_refl _, rfl, by simp [firsts, downL], h0, KpR.refl _ _ _ _ _⟩
  case round =>
    obtain ⟨m, pre, hm, rfl, hpre, hJs, hnx⟩ := hrel
    have HP := Lib.hid hpre
    clear hpre
    by_cases hm0 : m = 0
    · subst hm0
      gi_wp2
      go_end0
      exact ⟨⟨_, rfl⟩, .inl ⟨pre, HP.out, hJs⟩⟩
    · obtain ⟨t, rfl⟩ : ∃ t, m = t + 1 := ⟨m - 1, by omega⟩
      have htn : t < n := by omega
      have hBc : wr.cell? ⟨Bs, 0, none⟩ = some (.slice (some ⟨gq, 0, none⟩) n n) := (World.cell?_of_block (a := ⟨Bs, 0, none⟩) hnx.2.1).trans hBs
      obtain ⟨zs0, hr0, hl0⟩ := HR0.out
      obtain ⟨zs, hr, hzl⟩ := hnx.2.2 zs0 hr0 hl0
      obtain ⟨x, hx⟩ := get_lt (zs := zs) (k := t) (by omega)
      have hc := hr.at_ hx
      have hpl : pre.length < n := by
        have := congrArg List.length HP.out
        rw [firsts_length, downL_length] at this
        omega
      obtain ⟨fn, tmps, assign, body, hy, hR⟩ := hY pre (⟨t, htn⟩, x) wr hJs hpl
      dsimp only [encR] at hy
      clear hx hzl hl0 hr0 zs0
      have hti : (t : Int) < n := by omega
      have ht0 : (0 : Int) ≤ ((t + 1 : Nat) : Int) - 1 := by omega
      have hc' : wr.cell? ⟨gq, 0 + t, none⟩ = some (.int .u64 (x : Int)) := by rw [Nat.zero_add]; exact hc
      gi_wp2
      refine hR.mono ?_
      rintro e W3 (⟨rfl, hJ3, hk3⟩ | ⟨rfl, hJx3⟩)
      · gi_wp2
        go_roundw
        case rel => exact ⟨t, pre ++ [(⟨t, htn⟩, x)], by omega, by go_num, by rw [firsts_snoc, HP.out, show n - t = (n - (t + 1)) + 1 by omega, downL_succ]; simp; omega, hJ3, hnx.trans hk3⟩
        case measure => simp [intOf]
      · gi_wp2
        refine bodyPost_ret (results_none rfl _ _ _) rfl ?_
        exact ⟨⟨_, rfl⟩, .inr ⟨_, ⟨n - t, by omega, by rw [firsts_snoc, HP.out, show n - t = (n - (t + 1)) + 1 by omega, downL_succ]; simp; omega⟩, hJx3⟩⟩

theorem backR_stops (F : Fence) (nn : Nat) (h7 : F.fn 56) (hro : F.round = none) (hn : 1 ≤ nn) (Bs n₀ n gq : Nat) (zs : List Nat) (w : World) (hBs : Bs < w.heap.size) (hm : n ≤ 9223372036854775807)
    (hc : w.cell? ⟨Bs, 0, none⟩ = some (.slice (some ⟨gq, 0, none⟩) n n)) (hr : Row w gq zs) (hl : zs.length = n) :
    SeqStopsK F nn Try.prog 56 #[.pointer (some ⟨Bs, 0, none⟩)] (encR n) (KpR n₀ Bs gq n) (fun ys => firsts ys = downL n n) (fun pre => ∃ k, k ≤ n ∧ firsts pre = downL n k) n w := fun l J Jx W hW _ _ hY h0 => by
  have hc' := (hW.cell (p := ⟨Bs, 0, none⟩) hBs).trans hc
  exact back1R_in F nn h7 hro hn l Bs n₀ n gq hm J Jx hY W hc' zs (hr.below hW hr.lt) hl h0

theorem wrote_congr (ops : Array Oper) (v1 v2 : Nat → Value) (L : Array Bool) (t0 : Array Value) (h : ∀ j, L.getD j false = true → v1 j = v2 j) : ∀ k, wrote ops v1 L t0 k = wrote ops v2 L t0 k := by
  intro k
  induction k with
  | zero => rfl
  | succ k ih =>
    simp only [wrote]
    split
    · next hk => rw [ih, h k hk]
    · exact ih

/-- THE REGION: each operation, when its turn comes, yields a value; values and world meet a relation to what has been listed. -/
theorem wpIn_region_rel {β : Type} {F : Fence} {n : Nat} {P : Program} {id : Nat} {ops : Array Oper} {Q : Exit → Act → World → Prop} {a : Act} {w : World} (hm : P.follows .mixedOrders = true) (hd : Distinct ops)
    (vals : β → Nat → Value) (Wo : β → Array Bool → World → Prop) (b0 : β) (hw0 : Wo b0 (Array.replicate ops.size false) w.drew)
    (hstep : ∀ (b : β) (L : Array Bool) (a' : Act) (w' : World), Wo b L w' → L.size = ops.size → a'.defers = a.defers → (∀ (j : Nat) (oj : Oper), ops[j]? = some oj → L.getD j false = true → ∀ e ∈ oj.after, Region.binds .any e = true → L.getD e.on false = true) →
      (∀ t, (∀ (i : Nat) (oi : Oper), ops[i]? = some oi → oi.dst ≠ some t) → a'.tmps.getD t undef = a.tmps.getD t undef) →
      (∀ (j : Nat) (oj : Oper) t, ops[j]? = some oj → oj.dst = some t → L.getD j false = true → t < a.tmps.size → a'.tmps.getD t undef = vals b j) →
      ∀ i ∈ Region.ready .any ops L, ∀ oi, ops[i]? = some oi → ∀ (K : Act → World → Prop), (∀ b' w'', (∀ j, L.getD j false = true → vals b' j = vals b j) → Wo b' (L.setIfInBounds i true) w'' → K (a'.put oi.dst (vals b' i)) w'') → wpOpIn F n P ops Q i K a' w')
    (hend : ∀ (b : β) (L : Array Bool) (w' : World), Wo b L w' → (∀ i, i < ops.size → L.getD i false = true) → Q .normal { tmps := wrote ops (vals b) (Array.replicate ops.size true) a.tmps ops.size, defers := a.defers } w')
    (hacyc : ∀ L : Array Bool, L.size = ops.size → Region.ready .any ops L = [] → ∀ i, i < ops.size → L.getD i false = true) : (Code.region id ops true).wpIn F n P Q a w := by
  refine wpIn_region_any hm ?_
  refine wpAnyIn_inv (fun L a' w' => (L.size = ops.size ∧ ∀ (j : Nat) (oj : Oper), ops[j]? = some oj → L.getD j false = true → ∀ e ∈ oj.after, Region.binds .any e = true → L.getD e.on false = true) ∧ ∃ b, a' = { tmps := wrote ops (vals b) L a.tmps ops.size, defers := a.defers } ∧ Wo b L w') ?_ ?_ (fun L a w h => h.1.1) _ _ _ _ ⟨⟨by simp, ?_⟩, b0, ?_, hw0⟩ ?_
  · rintro L a' w' ⟨⟨hs, hcl⟩, b, rfl, hW⟩ i hi
    obtain ⟨h1, o, ho, hdep⟩ := mem_ready.1 hi
    have hi' : i < L.size := by rw [hs]; exact (Array.getElem?_eq_some_iff.1 ho).1
    have hf : L.getD i false = false := by
      rw [Array.getD_eq_getD_getElem?, Array.getElem?_eq_getElem hi'] at h1 ⊢
      simpa using h1
    refine hstep b L { tmps := wrote ops (vals b) L a.tmps ops.size, defers := a.defers } _ hW hs rfl hcl (fun t ht => wrote_old ops (vals b) L a.tmps t ht _) (fun j oj t hj hjt hL ht => wrote_new ops (vals b) L a.tmps hd hj hjt hL ht _ (Array.getElem?_eq_some_iff.1 hj).1) i hi o ho _ fun b' w'' hv hw'' => ⟨⟨by simp [hs], ?_⟩, b', ?_, hw''⟩
    · have hmono : ∀ t, L.getD t false = true → (L.setIfInBounds i true).getD t false = true := by
        intro t ht
        by_cases e : t = i
        · subst e; simp [Array.getD_eq_getD_getElem?, hi']
        · simp only [Array.getD_eq_getD_getElem?] at ht ⊢
          rw [Array.getElem?_setIfInBounds_ne (fun h => e h.symm)]; exact ht
      intro j oj hj hLj e he hb
      by_cases hji : j = i
      · subst hji
        obtain rfl : o = oj := Option.some.inj (ho.symm.trans hj)
        exact hmono _ (hdep e he hb)
      · refine hmono _ (hcl j oj hj ?_ e he hb)
        simp only [Array.getD_eq_getD_getElem?] at hLj ⊢
        rw [Array.getElem?_setIfInBounds_ne (fun h => hji h.symm)] at hLj
        exact hLj
    rw [wrote_set ops (vals b') L a.tmps hd ho hi' hf, if_pos (by rw [← hs]; exact hi'), wrote_congr ops (vals b') (vals b) L a.tmps hv]
    unfold Act.put
    cases o.dst <;> rfl
  · rintro L a' w' ⟨⟨hs, _⟩, b, rfl, hW⟩ hr
    have hall := hacyc L hs hr
    have e : L = Array.replicate ops.size true := by
      apply Array.ext
      · simp [hs]
      · intro i h1 h2
        have := hall i (by omega)
        rw [Array.getD_eq_getD_getElem?, Array.getElem?_eq_getElem h1] at this
        simpa using this
    have h := hend b L w' hW hall
    rw [e]
    exact h
  · intro j oj _ hLj
    exfalso
    rw [Array.getD_eq_getD_getElem?, Array.getElem?_replicate] at hLj
    split at hLj <;> simp at hLj
  · have : ∀ k, wrote ops (vals b0) (Array.replicate ops.size false) a.tmps k = a.tmps := by
      intro k
      induction k with
      | zero => rfl
      | succ k ih =>
        simp only [wrote]
        rw [if_neg (by rw [Array.getD_eq_getD_getElem?, Array.getElem?_replicate]; split <;> simp)]
        exact ih
    rw [this]
  · simp
theorem in_call_rel {F : Fence} {n : Nat} {P : Program} {ops : Array Oper} {Q : Exit → Act → World → Prop} {i : Nat} {o : Oper} {K : Act → World → Prop} {a : Act} {w : World} {v : Value} {f : FuncId} {args : Array Value} (ho : ops[i]? = some o) (hg : o.guard = none) (hdf : ∀ c, o.op ≠ .defer c) (hF : F.depth = none)
    (hab : ∀ f, o.about P w a.eval = some f → F.fn f) (hrun : (execOp a.eval o).run P w = .ok (.enter f args) w) (hc : CallsIn F (n - 1) P f args w fun e w' => e = .returned v ∧ K (a.put o.dst v) w') : wpOpIn F n P ops Q i K a w := by
  unfold wpOpIn
  simp only [ho, Region.wanted, hg, if_true]
  refine ⟨hab, ?_⟩
  rw [Oper.semAt_plain F _ _ hdf, hrun]
  refine ⟨(fun h => by (rw [hF] at h; cases h)), hc.mono ?_⟩
  rintro e w' ⟨rfl, h⟩
  exact h

/-- 'copy(d, s)' as one step of a region that draws -/
theorem step_copyU {w : World} {ops : Array Oper} {o : Oper} {a : Act} {K : Act → World → Prop} {Q : Exit → Act → World → Prop} {E : Prop} (hgd : o.guard = none) (d s : Operand) (dT sT : TypeId) (hu : Try.prog.underlying dT = some (.slice 58))
    (ho : o.op = .call { callee := .builtin .copy, args := #[d, s], argTypes := #[dT, sT] })
    (g off dLen dCap : Nat) (sp : Option Addr) (sLen sCap : Nat) (hd : a.eval d = .slice (some ⟨g, off, none⟩) dLen dCap) (hs : a.eval s = .slice sp sLen sCap)
    (zs ys : List Nat) (hg : Row w g zs) (B : Nat) (hsl : Sl w B sp sLen sCap ys) (hfit : off + dLen ≤ zs.length) (hle : sLen ≤ dLen)
    (h : ∀ w' v, Row w' g (splice zs off ys) → Only w w' g → w'.heap.size = w.heap.size → K (a.put o.dst v) w') :
    if Region.wanted o (yielded ops a.tmps) = true then Oper.wp Try.prog o a w K Q else E := by
  have hw : Region.wanted o (yielded ops a.tmps) = true := by simp [Region.wanted, hgd]
  rw [if_pos hw]
  have hsz : (Try.prog.info? 58).map (·.size) = some 1 := by
    obtain ⟨i0, hi, hz0, hz1, hz2⟩ := info_parts Try.infoU
    rw [hi]; simp [hz1]
  have hr := hsl.rd
  have hl := hsl.len
  subst hl
  have hmin : Nat.min ys.length dLen = ys.length := Nat.min_eq_left hle
  by_cases hn : ys = []
  · subst hn
    have hrun := run_copy_none (P := Try.prog) w dT sT o.type 58 (some ⟨g, off, none⟩) sp dLen dCap ([] : List Nat).length sCap hu hsz (by simp)
    unfold Oper.wp
    simp only [List.length_nil] at hrun hs
    simp [execOp, ho, resolve, invoke, builtin, hd, hs, hrun, Result.andThen]
    exact h w _ (by simpa [splice] using hg) (Only.refl _ _) rfl
  · obtain ⟨b, o', rfl, _, hc⟩ := hr hn
    have hrun := run_copy_row (P := Try.prog) w dT sT o.type 58 g off dLen dCap ⟨b, o', none⟩ ys.length sCap _ _ (ys.map U) hu hsz hg (by simp [hmin]) (fun j u hu => by
      rw [Addr.add_lit]
      simp only [List.getElem?_map, Option.map_eq_some_iff] at hu
      obtain ⟨y, hy, rfl⟩ := hu
      exact hc j y hy) (by simp; omega) (oneCellU ys)
    unfold Oper.wp
    simp [execOp, ho, resolve, invoke, builtin, hd, hs, hrun, Result.andThen]
    refine h _ _ ?_ ⟨rfl, rfl, rfl, by simp [World.setRow], fun k _ hk => setRow_other w g k _ (fun e => hk (by rw [e]))⟩ (by simp [World.setRow])
    have := setRow_heap w g _ (((zs.map U).toArray).toList.take off ++ (ys.map U ++ ((zs.map U).toArray).toList.drop (off + (ys.map U).length))).toArray _ _ hg
    unfold Row
    simp only [List.length_map] at this
    simpa [← splice_map, splice] using this
/-- a call of a Go function, as one step of a region that draws -/
theorem step_call2 {P : Program} {ops : Array Oper} {o : Oper} {a : Act} {w : World} {K : Act → World → Prop} {Q : Exit → Act → World → Prop} {E : Prop} (hg : o.guard = none) (g : FuncId) (p q : Operand) (ts : Array TypeId)
    (ho : o.op = .call { callee := .value (.func g), args := #[p, q], argTypes := ts }) (x y : Value) (hp : a.eval p = x) (hq : a.eval q = y) (hnf : (callFunc g #[x, y]).run P w = .ok (.enter g #[x, y]) w)
    (hc : Calls P g #[x, y] w fun e w' => ∃ v, e = .returned v ∧ K (a.put o.dst v) w') : if Region.wanted o (yielded ops a.tmps) = true then Oper.wp P o a w K Q else E := by
  have hw : Region.wanted o (yielded ops a.tmps) = true := by simp [Region.wanted, hg]
  rw [if_pos hw]
  have hev : a.eval (.func g) = .func (.func g) #[] #[] := rfl
  unfold Oper.wp
  simp [execOp, ho, resolve, invoke, hev, hp, hq, hnf, Deferred.ofValue, Oper.upon]
  refine hc.mono ?_
  rintro e w' ⟨v, rfl, h⟩
  exact h
end Go.Proofs.Ytfiakaenenbhpaa
