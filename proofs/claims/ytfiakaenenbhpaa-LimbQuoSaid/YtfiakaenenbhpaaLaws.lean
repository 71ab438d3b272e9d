/- The walk's laws for make, append and copy, in the words of Base. -/
import Derived.Test.YtfiakaenenbhpaaBase
import Derived.Laws.CopyOwn
import Derived.Laws.AppendOwnNone
namespace Go.Proofs.Ytfiakaenenbhpaa
open Go.RowKit

theorem Try.infoU : (Try.prog.info? 58).map (fun i => (i.zero, i.size, i.bytes)) = some (some (.int .u64 0), 1, 8) := by kernel_rfl

theorem oneCellU (xs : List Nat) : ∀ u ∈ xs.map U, u.oneCell' = true := by
  intro u hu
  obtain ⟨_, _, rfl⟩ := List.mem_map.1 hu
  rfl

/-- what is owned is read -/
theorem Sl.of_own {w : World} {base : Nat} {v : Value} {n : Nat} {xs : List Nat} (h : w.ownsRow base 58 1 v n (xs.map U)) :
    ∃ A c, v = .slice A n c ∧ Sl w w.heap.size A n c xs := by
  have hl : xs.length = n := by simpa using h.1
  rcases h.2 with ⟨rfl, rfl⟩ | ⟨g, cap, cur, rfl, _, hh, hnc, hcm, _, _⟩
  · obtain rfl : xs = [] := List.eq_nil_of_length_eq_zero hl
    exact ⟨none, 0, rfl, Sl.nil _ _ _ (by omega)⟩
  · subst hl
    refine ⟨some ⟨g, 0, none⟩, cap, rfl, rfl, hnc, by simpa [maxLen] using hcm, fun _ => ⟨g, 0, rfl, (Array.getElem?_eq_some_iff.1 hh).1, fun k x hx => ?_⟩⟩
    have hc := h.cells (g := g) rfl k (U x) (by simp [hx])
    rw [Addr.add_lit] at hc
    exact hc

/-- 'append(T(nil), x...)' -/
theorem wl_append_nil {w : World} {ops : Array Oper} {rest : List Oper} {o : Oper} {a : Act} {Q : Exit → Act → World → Prop} (hgd : o.guard = none) (x : Operand) (t : TypeId) (ht : Try.prog.underlying t = some (.slice 58))
    (ho : o.op = .call { callee := .builtin .append, args := #[.const (.slice none 0 0), x], argTypes := #[t, t] })
    (A : Option Addr) (m c : Nat) (xs : List Nat) (hx : a.eval x = .slice A m c) (B : Nat) (hs : Sl w B A m c xs) (hb : m ≤ 17592186044416)
    (h : ∀ A' c' w', Sl w' w'.heap.size A' m c' xs → Below w.heap.size w w' → wpList Try.prog ops Q rest (a.put o.dst (.slice A' m c')) w') : wpList Try.prog ops Q (o :: rest) a w := by
  obtain ⟨i0, hi, hz0, hz1, hz2⟩ := info_parts Try.infoU
  have hr := hs.rd
  have hm := hs.len
  subst hm
  have go : ∀ ad, A = some ad → (∀ j u, (xs.map U)[j]? = some u → w.cell? (ad.add j) = some u) → wpList Try.prog ops Q (o :: rest) a w := by
    rintro ad rfl hc
    refine wpList_append_own (w := w) hgd _ _ t ho w.heap.size 58 i0 (.int .u64 0) 1 8 ht hi hz0 hz1 hz2 rfl (by decide) (.slice none 0 0) 0 [] rfl (World.ownsRow_nil _ _ _ _)
      ad xs.length c (xs.map U) hx (by simp) hc (oneCellU xs) (by simp [maxLen]; omega) (by omega) (Nat.le_refl _) ?_
    intro v' w' hown hg _
    simp only [Nat.zero_add, List.nil_append] at hown
    obtain ⟨A', c', rfl, h1⟩ := Sl.of_own hown
    exact h A' c' w' h1 ((Below.refl _ _).grown hg (Nat.le_refl _) (fun k e => by simp [Value.ownBlock] at e))
  by_cases hn : xs = []
  · subst hn
    cases A with
    | none =>
      refine wpList_plain hgd fun K hK => ?_
      unfold Oper.wp
      have hrun : (Builtin.append_ #[t, t] o.type #[.slice none 0 0, .slice none 0 c]).run Try.prog w = .ok (.slice none 0 0) w := by
        simp [Builtin.append_, run_underlying ht, sizeOf, typeInfo, hi, Builtin.lenOf, Builtin.firstCells]
      simp only [List.length_nil] at hx
      have hev : a.eval (.const (.slice none 0 0)) = .slice none 0 0 := rfl
      simp [execOp, ho, resolve, invoke, builtin, hx, hev, hrun, Result.andThen]
      exact hK _ _ (h none 0 w (Sl.nil _ _ _ (by omega)) (Below.refl _ _))
    | some ad => exact go ad rfl (by simp)
  · obtain ⟨b, off, rfl, _, hc⟩ := hr hn
    refine go _ rfl (fun j u hu => ?_)
    rw [Addr.add_lit]
    simp only [List.getElem?_map, Option.map_eq_some_iff] at hu
    obtain ⟨y, hy, rfl⟩ := hu
    exact hc j y hy

/-- 'append(s, y)', s the call's own -/
theorem wl_append_one {w : World} {ops : Array Oper} {rest : List Oper} {o : Oper} {a : Act} {Q : Exit → Act → World → Prop} (hgd : o.guard = none) (s x : Operand) (t : TypeId) (ht : Try.prog.underlying t = some (.slice 58))
    (ho : o.op = .call { callee := .builtin .append, args := #[s, x], argTypes := #[t, t] })
    (base : Nat) (v : Value) (k : Nat) (ys : List Nat) (hs : a.eval s = v) (hown : w.ownsRow base 58 1 v k (ys.map U)) (ad : Addr) (c : Nat) (y : Nat) (hx : a.eval x = .slice (some ad) 1 c) (hc : w.cell? ad = some (.int .u64 (y : Int)))
    (hk : k + 1 ≤ 17592186044416) (hbase : base ≤ w.heap.size)
    (h : ∀ v' w', w'.ownsRow base 58 1 v' (k + 1) ((ys ++ [y]).map U) → (∀ B a, Below B a w → B ≤ base → Below B a w') → wpList Try.prog ops Q rest (a.put o.dst v') w') : wpList Try.prog ops Q (o :: rest) a w := by
  obtain ⟨i0, hi, hz0, hz1, hz2⟩ := info_parts Try.infoU
  have h63 : k + 1 ≤ maxLen := by simp only [maxLen]; omega
  have h64 : (k + 1) * 8 ≤ 140737488355328 := by omega
  refine wpList_append_own (w := w) hgd _ _ t ho base 58 i0 (.int .u64 0) 1 8 ht hi hz0 hz1 hz2 rfl (by decide) v k _ hs hown ad 1 c [U y] hx (by simp) ?_ (by simp [Value.oneCell']) h63 h64 hbase ?_
  · intro j u hj
    match j, hj with
    | 0, hj => simp at hj; subst hj; simpa [Addr.add] using hc
  · intro v' w' hown' hg _
    refine h v' w' (by simpa using hown') fun B a hb hB => hb.grown hg (Nat.le_trans hB hbase) fun j e => ?_
    have := (hown.lt j e).1
    omega

/-- 'make(T, n)' -/
theorem wl_make {w : World} {ops : Array Oper} {rest : List Oper} {o : Oper} {a : Act} {Q : Exit → Act → World → Prop} (hg : o.guard = none) (l : Operand) (t : TypeId) (ht : Try.prog.underlying t = some (.slice 58))
    (hop : o.op = Op.makeSlice t l l) (N : Int) (n : Nat) (hl : a.eval l = .int .i64 N) (hN : N = n) (hn : n ≤ 35184372088832)
    (h : ∀ w', Row w' w.heap.size (List.replicate n 0) → Below w.heap.size w w' → w'.heap.size = w.heap.size + 1 → wpList Try.prog ops Q rest (a.put o.dst (.slice (some ⟨w.heap.size, 0, none⟩) n n)) w') :
    wpList Try.prog ops Q (o :: rest) a w := by
  obtain ⟨i0, hi, hz0, hz1, hz2⟩ := info_parts Try.infoU
  subst hN
  refine wpList_plain hg fun K hK => ?_
  have hb : (i0.bytes : Int) * (n : Int) ≤ 281474976710656 := by rw [hz2]; omega
  have hr := run_make (P := Try.prog) w t 58 i0 (.int .u64 0) ht hi hz0 .i64 .i64 n n (by omega) (by omega) hb (by omega)
  simp only [Int.toNat_natCast] at hr
  unfold Oper.wp
  simp [execOp, hop, hl, hr, Result.andThen]
  refine hK _ _ (h _ ?_ ((Below.refl _ _).alloc (Nat.le_refl _) _) (by simp))
  unfold Row
  rw [heap_alloc_new, hz1, Nat.mul_one]
  have e : madeCells (Value.int IntKind.u64 0).cells n = (List.map U (List.replicate n 0)).toArray := by
    apply Array.ext'
    rw [show (Value.int IntKind.u64 0).cells = #[Value.int IntKind.u64 0] from rfl, toList_madeCells_one]
    simp [U]
  rw [e]

theorem splice_map (zs ys : List Nat) (off : Nat) : splice (zs.map U) off (ys.map U) = (splice zs off ys).map U := by simp [splice]

/-- 'copy(d, s)', the result not used: d the numbers from off on of block g -/
theorem wl_copy {w : World} {ops : Array Oper} {rest : List Oper} {o : Oper} {a : Act} {Q : Exit → Act → World → Prop} (hgd : o.guard = none) (d s : Operand) (dT sT : TypeId) (hu : Try.prog.underlying dT = some (.slice 58))
    (ho : o.op = .call { callee := .builtin .copy, args := #[d, s], argTypes := #[dT, sT] })
    (g off dLen dCap : Nat) (sp : Option Addr) (sLen sCap : Nat) (hd : a.eval d = .slice (some ⟨g, off, none⟩) dLen dCap) (hs : a.eval s = .slice sp sLen sCap)
    (zs ys : List Nat) (hg : Row w g zs) (B : Nat) (hsl : Sl w B sp sLen sCap ys) (hfit : off + dLen ≤ zs.length) (hle : sLen ≤ dLen)
    (h : ∀ w', Row w' g (splice zs off ys) → Only w w' g → w'.heap.size = w.heap.size → ∀ v, wpList Try.prog ops Q rest (a.put o.dst v) w') :
    wpList Try.prog ops Q (o :: rest) a w := by
  have hsz : (Try.prog.info? 58).map (·.size) = some 1 := by
    obtain ⟨i0, hi, hz0, hz1, hz2⟩ := info_parts Try.infoU
    rw [hi]; simp [hz1]
  have hr := hsl.rd
  have hl := hsl.len
  subst hl
  have hmin : Nat.min ys.length dLen = ys.length := Nat.min_eq_left hle
  by_cases hn : ys = []
  · subst hn
    refine wpList_copy_nothing hgd d s dT sT ho 58 hu hsz _ sp dLen dCap _ sCap hd hs (by simp) ?_
    exact h w (by simpa [splice] using hg) (Only.refl _ _) rfl _
  · obtain ⟨b, o', rfl, _, hc⟩ := hr hn
    refine wpList_copy_own hgd d s dT sT ho 58 hu hsz g off dLen dCap _ _ sCap hd hs _ _ hg (ys.map U) (by simp [hmin]) (fun j u hu => ?_) (by simp; omega) (oneCellU ys) ?_
    · rw [Addr.add_lit]
      simp only [List.getElem?_map, Option.map_eq_some_iff] at hu
      obtain ⟨y, hy, rfl⟩ := hu
      exact hc j y hy
    · refine h (w.setRow g _) ?_ ⟨rfl, rfl, rfl, by simp [World.setRow], fun k _ hk => setRow_other w g k _ (fun e => hk (by rw [e]))⟩ (by simp [World.setRow]) _
      have := setRow_heap w g _ (((zs.map U).toArray).toList.take off ++ (ys.map U ++ ((zs.map U).toArray).toList.drop (off + (ys.map U).length))).toArray _ _ hg
      unfold Row
      rw [this, ← splice_map]
      simp [splice]
end Go.Proofs.Ytfiakaenenbhpaa
