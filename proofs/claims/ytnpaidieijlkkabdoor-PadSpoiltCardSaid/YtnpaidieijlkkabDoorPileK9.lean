/- Parts of one proof, joined: Pa, PdB, PdC, PdG, PdD, ShelfB, PdI, PdH, PdJ, PdK, PdR, PdE, PdF, PdS, PdT. -/
import Derived.Test.YtnpaidieijlkkabDoorPileK8
import Derived.Test.YtnpaidieijlkkabDoorPileK4
import Derived.Test.YtnpaidieijlkkabDoorPileK3
import Derived.OwnWalk

/- append to the call's own slice of bytes, nil or not: where the result lies. -/
set_option linter.unusedVariables false
set_option linter.unusedSimpArgs false
namespace Go.Proofs.YtnpaidieijlkkabDoor
open Go.RowKit

section
variable {P : Program} {t e : TypeId} {z : Value} {sz : Nat} {w : World} {o : Oper} {a : Act}
theorem run_appA (E : Elem P t e z sz) (ty : TypeId) (base : Nat) (v : Value) (k : Nat) (ys : List Value) (hown : w.ownsRow base e 1 v k ys) (A : Option Addr) (m c : Nat) (xs : List Value) (hnil : A = none → c = 0) (B : Nat) (hsl : SlV w B A m c xs) (h1 : Ones xs)
    (hk : k + m ≤ 17592186044416) (hbase : base ≤ w.heap.size) :
    ∃ v' w', (Builtin.append_ #[t, t] ty #[v, .slice A m c]).run P w = .ok v' w' ∧ w'.ownsRow base e 1 v' (k + m) (ys ++ xs) ∧ w.grownBy w' v.ownBlock ∧ (∀ r, v'.ownBlock = some r → v.ownBlock = some r ∨ w.heap.size ≤ r) := by
  obtain ⟨i0, hi, hz0, hz1, hz2⟩ := info_parts E.info
  have hm : m = xs.length := hsl.len
  cases A with
  | none =>
    have hm0 : xs = [] := by
      apply Classical.byContradiction
      intro hn
      obtain ⟨b, off, e, _⟩ := hsl.2.2.2 hn
      cases e
    subst hm0
    obtain rfl : m = 0 := hm
    obtain rfl := hnil rfl
    exact ⟨v, w, run_append_owned_none (P := P) (w := w) base t ty e i0 1 E.sl hi v k ys hown, by simpa using hown, ⟨rfl, rfl, rfl, Nat.le_refl _, fun _ _ _ => rfl⟩, fun r hr => .inl hr⟩
  | some ad =>
    have hc : ∀ j u, xs[j]? = some u → w.cell? (ad.add j) = some u := fun j u hu => by
      obtain ⟨b, off, e, _, hc⟩ := hsl.2.2.2 (by intro e; subst e; simp at hu)
      injection e with e
      subst e
      rw [Addr.add_lit]
      exact hc j u hu
    have hb : (k + m) * sz ≤ 140737488355328 := Nat.le_trans (Nat.mul_le_mul hk E.b8) (by decide)
    have h63 : k + m ≤ maxLen := by simp only [maxLen]; omega
    rcases hown.2 with ⟨e0, e1⟩ | ⟨g0, cap0, cur, e0, hbg, hg, hnc, hcm, hcs, htake⟩
    · have hown' : w.ownsRow w.heap.size e 1 v k ys := ⟨hown.1, .inl ⟨e0, e1⟩⟩
      obtain ⟨v', w', hr, h2, h3, _⟩ := run_append_own (P := P) w w.heap.size t ty e i0 z 1 sz E.sl hi hz0 hz1 hz2 (by rw [E.one]; rfl) (by decide) v k ys hown' ad m c xs (by omega) hc h1 h63 hb (Nat.le_refl _)
      exact ⟨v', w', hr, ⟨h2.1, h2.2.imp id (fun ⟨g, cap, cur, h1, h2, h3⟩ => ⟨g, cap, cur, h1, Nat.le_trans hbase h2, h3⟩)⟩, h3, fun r hr => .inr (h2.lt r hr).1⟩
    · have hown2 : w.ownsRow base e i0.size v k ys := by rw [hz1]; exact hown
      obtain ⟨v', w', hr, h2, h3, _⟩ := run_append_own (P := P) w base t ty e i0 z 1 sz E.sl hi hz0 hz1 hz2 (by rw [E.one]; rfl) (by decide) v k ys hown ad m c xs (by omega) hc h1 h63 hb hbase
      refine ⟨v', w', hr, h2, h3, fun r hr' => ?_⟩
      subst e0
      by_cases hroom : k + m ≤ cap0
      · have hfit : k * i0.size + xs.length ≤ cur.size := by rw [hcs, hz1]; omega
        have hr2 := run_append_room (P := P) w t ty e i0 E.sl hi g0 k cap0 cur hg ad m c xs (by rw [hz1]; omega) hc h1 hroom hfit
        rw [hr] at hr2
        injection hr2 with hr2 _
        rw [hr2] at hr'
        exact .inl hr'
      · have holds : ∀ j u, ys[j]? = some u → w.cell? ((⟨g0, 0, none⟩ : Addr).add j) = some u := hown2.cells (g := g0) rfl
        have hr2 := run_append_grow (P := P) w t ty e i0 z E.sl hi hz0 ⟨g0, 0, none⟩ k cap0 ys hown2.1 holds ad m c xs (by rw [hz1]; omega) hc (by omega) (by omega) (growslice_fits (by omega) (by rw [hz2]; exact hb))
        rw [hr] at hr2
        injection hr2 with hr2 _
        rw [hr2] at hr'
        have hr3 : some w.heap.size = some r := hr'
        injection hr3 with hr3
        exact .inr (by omega)
theorem wp_appA {K : Act → World → Prop} {Q : Exit → Act → World → Prop} (E : Elem P t e z sz) (s x : Operand)
    (ho : o.op = .call { callee := .builtin .append, args := #[s, x], argTypes := #[t, t] })
    (base : Nat) (v : Value) (k : Nat) (ys : List Value) (hs : a.eval s = v) (hown : w.ownsRow base e 1 v k ys) (A : Option Addr) (m c : Nat) (xs : List Value) (hx : a.eval x = .slice A m c) (hnil : A = none → c = 0) (B : Nat) (hsl : SlV w B A m c xs) (h1 : Ones xs)
    (hk : k + m ≤ 17592186044416) (hbase : base ≤ w.heap.size)
    (h : ∀ v' w', w'.ownsRow base e 1 v' (k + m) (ys ++ xs) → w.grownBy w' v.ownBlock → (∀ r, v'.ownBlock = some r → v.ownBlock = some r ∨ w.heap.size ≤ r) → K (a.put o.dst v') w') : Oper.wp P o a w K Q := by
  obtain ⟨v', w', hr, h2, h3, h4⟩ := run_appA E o.type base v k ys hown A m c xs hnil B hsl h1 hk hbase
  unfold Oper.wp execOp
  simp only [ho, resolve, invoke, builtin, Sem.run_bind, Sem.run_pure, Result.andThen_ok, List.map_toArray, List.map_cons, List.map_nil, hs, hx, hr]
  exact h v' w' h2 h3 h4
theorem wlv_appA {ops : Array Oper} {rest : List Oper} {Q : Exit → Act → World → Prop} (E : Elem P t e z sz) (hgd : o.guard = none) (s x : Operand)
    (ho : o.op = .call { callee := .builtin .append, args := #[s, x], argTypes := #[t, t] })
    (base : Nat) (v : Value) (k : Nat) (ys : List Value) (hs : a.eval s = v) (hown : w.ownsRow base e 1 v k ys) (A : Option Addr) (m c : Nat) (xs : List Value) (hx : a.eval x = .slice A m c) (hnil : A = none → c = 0) (B : Nat) (hsl : SlV w B A m c xs) (h1 : Ones xs)
    (hk : k + m ≤ 17592186044416) (hbase : base ≤ w.heap.size)
    (h : ∀ v' w', w'.ownsRow base e 1 v' (k + m) (ys ++ xs) → w.grownBy w' v.ownBlock → (∀ r, v'.ownBlock = some r → v.ownBlock = some r ∨ w.heap.size ≤ r) → wpList P ops Q rest (a.put o.dst v') w') : wpList P ops Q (o :: rest) a w :=
  wpList_plain hgd fun K hK => wp_appA E s x ho base v k ys hs hown A m c xs hx hnil B hsl h1 hk hbase fun v' w' h2 h3 h4 => hK _ _ (h v' w' h2 h3 h4)
end
/-- at a step of a region that draws, under a guard that is open -/
theorem step_appA {P : Program} {t e : TypeId} {z : Value} {sz : Nat} {w : World} {o : Oper} {a : Act} {ops : Array Oper} {E0 : Prop} {K : Act → World → Prop} {Q : Exit → Act → World → Prop} (E : Elem P t e z sz) (hgd : Region.wanted o (yielded ops a.tmps) = true) (s x : Operand)
    (ho : o.op = .call { callee := .builtin .append, args := #[s, x], argTypes := #[t, t] })
    (base : Nat) (v : Value) (k : Nat) (ys : List Value) (hs : a.eval s = v) (hown : w.ownsRow base e 1 v k ys) (A : Option Addr) (m c : Nat) (xs : List Value) (hx : a.eval x = .slice A m c) (hnil : A = none → c = 0) (B : Nat) (hsl : SlV w B A m c xs) (h1 : Ones xs)
    (hk : k + m ≤ 17592186044416) (hbase : base ≤ w.heap.size)
    (h : ∀ v' w', w'.ownsRow base e 1 v' (k + m) (ys ++ xs) → w.grownBy w' v.ownBlock → (∀ r, v'.ownBlock = some r → v.ownBlock = some r ∨ w.heap.size ≤ r) → K (a.put o.dst v') w') :
    if Region.wanted o (yielded ops a.tmps) = true then Oper.wp P o a w K Q else E0 := by
  rw [if_pos hgd]
  exact wp_appA E s x ho base v k ys hs hown A m c xs hx hnil B hsl h1 hk hbase h
/-- the call's own bytes, as a block of their own -/
theorem own_rowV {w : World} {base : Nat} {e : TypeId} {v : Value} {n : Nat} {xs : List Value} (h : w.ownsRow base e 1 v n xs) (hn : 0 < n) :
    ∃ g c ys, v = .slice (some ⟨g, 0, none⟩) n c ∧ base ≤ g ∧ RowV e w g ys ∧ ys.length = c ∧ n ≤ c := by
  rcases h.2 with ⟨e0, h4⟩ | ⟨g, cap, cur, e0, h4, hg, hnc, _, hcs, _⟩
  · have := h.1; subst h4; simp at this; omega
  · exact ⟨g, cap, cur.toList, e0, h4, by unfold RowV; rw [hg], by simpa using hcs, hnc⟩
theorem own_only {w w' : World} {base g : Nat} {e : TypeId} {v : Value} {n : Nat} {xs : List Value} (h : w.ownsRow base e 1 v n xs) (ho : OnlyV w w' g) (hn : v.ownBlock ≠ some g) : w'.ownsRow base e 1 v n xs :=
  own_keep h fun q hq => ho.block q (h.lt q hq).2 (fun e => hn (by rw [hq, e]))
theorem OnlyV.setV {a w : World} {g : Nat} (h : OnlyV a w g) (i : Nat) (u : Value) : OnlyV a (w.setCell ⟨g, i, none⟩ u) g := h.set i u
theorem own_all {w : World} {base : Nat} {e : TypeId} {v : Value} {n : Nat} {xs : List Value} (h : w.ownsRow base e 1 v n xs) :
    ∃ A c, v = .slice A n c ∧ SlV w w.heap.size A n c xs ∧ (A = none → c = 0) := by
  obtain ⟨A, c, rfl, hs, h2, h3⟩ := SlV.of_own h
  refine ⟨A, c, rfl, hs, fun e => ?_⟩
  subst e
  rcases h.2 with ⟨e0, _⟩ | ⟨g, cap, cur, e0, _⟩
  · injection e0
  · injection e0 with e1 _ _
    cases e1
theorem own_sl {w : World} {base : Nat} {e : TypeId} {A : Option Addr} {n c : Nat} {xs : List Value} (h : w.ownsRow base e 1 (.slice A n c) n xs) : SlV w w.heap.size A n c xs := by
  obtain ⟨A', c', e0, hs, _⟩ := SlV.of_own h
  injection e0 with e1 e2 e3
  subst e1 e3
  exact hs
theorem own_later_ {w w' : World} {base : Nat} {e : TypeId} {v : Value} {n : Nat} {vs : List Value} (h : w.ownsRow base e 1 v n vs) (hb : Below w.heap.size w w') : w'.ownsRow base e 1 v n vs := own_keep h (fun q hq => hb.block q (h.lt q hq).2)
theorem HashIs.keep {w w' : World} {g : Nat} {k : Int} {msg : List (BitVec 8)} (h : HashIs w g k msg) (hk : w'.heap[g]? = w.heap[g]?) : HashIs w' g k msg := by
  obtain ⟨left, h1, h2⟩ := h
  exact ⟨left, ⟨hk.trans h1.row, h1.hw, h1.hl⟩, h2⟩
/-- a block of the call's own bytes, or a number that nothing bears -/
theorem own_place {w : World} {bp n c : Nat} {A : Option Addr} {e : TypeId} {xs : List Value} (h : w.ownsRow bp e 1 (.slice A n c) n xs) (lo : Nat) (hlo : lo ≤ bp) (hw : lo ≤ w.heap.size) :
    ∃ gp, lo ≤ gp ∧ (∀ r, r < w.heap.size → (Value.slice A n c).ownBlock ≠ some r → r ≠ gp) ∧ (0 < n → A = some ⟨gp, 0, none⟩ ∧ ∃ ys, RowV e w gp ys ∧ ys.length = c ∧ n ≤ c) := by
  by_cases hn : n = 0
  · exact ⟨w.heap.size, hw, fun r hr _ => by omega, fun h => by omega⟩
  · obtain ⟨g, c', ys, e0, hb, hr, hl, hle⟩ := own_rowV h (by omega)
    injection e0 with e1 e2 e3
    subst e1 e3
    exact ⟨g, by omega, fun r _ hne e => hne (by rw [e]; rfl), fun _ => ⟨rfl, ys, hr, hl, hle⟩⟩
end Go.Proofs.YtnpaidieijlkkabDoor

/- Pieces in a row: Concat and Of over rows just built. -/
set_option linter.unusedVariables false
set_option linter.unusedSimpArgs false
namespace Go.Proofs.YtnpaidieijlkkabDoor
open Go.RowKit Go.Shelf

/-- a slice that reads a list -/
def Pc (w : World) (B : Nat) (v : Value) (l : List (BitVec 8)) : Prop := ∃ A c, v = .slice A l.length c ∧ SlV w B A l.length c (l.map W8) ∧ (A = none → c = 0)
theorem Pc.of_sl {w : World} {B n c : Nat} {A : Option Addr} {l : List (BitVec 8)} (h : SlV w B A n c (l.map W8)) (hz : A = none → c = 0) : Pc w B (.slice A n c) l := by
  obtain rfl : n = l.length := by simpa using h.len
  exact ⟨A, c, rfl, h, hz⟩
theorem FreshV.form {w : World} {B : Nat} {v : Value} {l : List (BitVec 8)} (h : FreshV w B v l) : ∃ A n c, v = .slice A n c := by
  obtain ⟨A, c, e, _⟩ := h
  exact ⟨A, _, c, e⟩
theorem FreshV.len_ {w : World} {B n c : Nat} {A : Option Addr} {l : List (BitVec 8)} (h : FreshV w B (.slice A n c) l) : n = l.length := by
  obtain ⟨A', c', e, _⟩ := h
  injection e
theorem FreshV.pc {w : World} {B : Nat} {v : Value} {l : List (BitVec 8)} (h : FreshV w B v l) : Pc w w.heap.size v l := by
  obtain ⟨A, c, e, h1, h2, _⟩ := h
  exact ⟨A, c, e, h1, h2⟩
theorem Pc.later {w w' : World} {B : Nat} {v : Value} {l : List (BitVec 8)} (h : Pc w B v l) (hb : Below B w w') : Pc w' B v l := by
  obtain ⟨A, c, e, h1, h2⟩ := h
  exact ⟨A, c, e, h1.below hb, h2⟩
theorem Pc.more {w : World} {B B' : Nat} {v : Value} {l : List (BitVec 8)} (h : Pc w B v l) (hb : B ≤ B') : Pc w B' v l := by
  obtain ⟨A, c, e, h1, h2⟩ := h
  exact ⟨A, c, e, h1.more hb, h2⟩
theorem Pc.up {w w' : World} {v : Value} {l : List (BitVec 8)} (h : Pc w w.heap.size v l) (hb : Below w.heap.size w w') : Pc w' w'.heap.size v l := (h.later hb).more hb.size
theorem FreshV.up {w w' : World} {B : Nat} {v : Value} {l : List (BitVec 8)} (h : FreshV w B v l) (hb : Below w.heap.size w w') : FreshV w' B v l := by
  obtain ⟨A, c, e, h1, h2, h3⟩ := h
  exact ⟨A, c, e, (h1.below hb).more hb.size, h2, h3⟩
def Pcs (w : World) (B : Nat) : List Value → List (List (BitVec 8)) → Prop
  | [], [] => True
  | v :: vs, l :: ls => Pc w B v l ∧ Pcs w B vs ls
  | _, _ => False
theorem Pcs.len {w : World} {B : Nat} : ∀ {vs : List Value} {ls : List (List (BitVec 8))}, Pcs w B vs ls → vs.length = ls.length
  | [], [], _ => rfl
  | _ :: _, _ :: _, h => by simp [Pcs.len h.2]
  | [], _ :: _, h => h.elim
  | _ :: _, [], h => h.elim
theorem Pcs.at_ {w : World} {B : Nat} : ∀ {vs : List Value} {ls : List (List (BitVec 8))}, Pcs w B vs ls → ∀ (i : Nat) (v : Value) (l : List (BitVec 8)), vs[i]? = some v → ls[i]? = some l → Pc w B v l
  | [], [], _, i, v, l, hv, _ => by simp at hv
  | _ :: _, _ :: _, h, 0, v, l, hv, hl => by cases hv; cases hl; exact h.1
  | _ :: _, _ :: _, h, i + 1, v, l, hv, hl => Pcs.at_ h.2 i v l (by simpa using hv) (by simpa using hl)
  | [], _ :: _, h, _, _, _, _, _ => h.elim
  | _ :: _, [], h, _, _, _, _, _ => h.elim
theorem Pcs.later {w w' : World} {B : Nat} (hb : Below B w w') : ∀ {vs : List Value} {ls : List (List (BitVec 8))}, Pcs w B vs ls → Pcs w' B vs ls
  | [], [], _ => trivial
  | _ :: _, _ :: _, h => ⟨h.1.later hb, Pcs.later hb h.2⟩
  | [], _ :: _, h => h.elim
  | _ :: _, [], h => h.elim
theorem Pcs.more {w : World} {B B' : Nat} (hb : B ≤ B') : ∀ {vs : List Value} {ls : List (List (BitVec 8))}, Pcs w B vs ls → Pcs w B' vs ls
  | [], [], _ => trivial
  | _ :: _, _ :: _, h => ⟨h.1.more hb, Pcs.more hb h.2⟩
  | [], _ :: _, h => h.elim
  | _ :: _, [], h => h.elim
theorem parts_row {w : World} {g B : Nat} {vs : List Value} {ls : List (List (BitVec 8))} (h : RowV 22 w g vs) (hp : Pcs w B vs ls) (hg : g < B) (hl : vs.length ≤ 1000000) : PartsV w B (some ⟨g, 0, none⟩) vs.length vs.length ls :=
  ⟨vs, ⟨rfl, Nat.le_refl _, by omega, fun _ => ⟨g, 0, rfl, hg, fun k v hv => by rw [Nat.zero_add]; exact h.at_ hv⟩⟩, hp.len, fun i v ps hv hq => by
    obtain ⟨A, c, e, h1, h2⟩ := hp.at_ i v ps hv hq
    exact ⟨A, _, c, e, h1, h2⟩⟩
/-- a row of slices just built, with all that they read -/
theorem parts_new (w : World) (vs : List Value) (arr : Array Value) (ha : vs.toArray = arr) (ls : List (List (BitVec 8))) (hp : Pcs w w.heap.size vs ls) (n : Nat) (hn : vs.length = n) (hn2 : n ≤ 1000000) :
    PartsV (w.alloc (.cells arr 22)) (w.alloc (.cells arr 22)).heap.size (some ⟨w.heap.size, 0, none⟩) n n ls ∧ Below w.heap.size w (w.alloc (.cells arr 22)) := by
  obtain ⟨W2, e2, r2, b2, z⟩ := newV w 22 vs arr ha
  rw [e2]
  subst hn
  exact ⟨parts_row r2 ((hp.later b2).more (by omega)) (by omega) hn2, b2⟩
theorem concatA (w : World) (vs : List Value) (arr : Array Value) (ha : vs.toArray = arr) (ls : List (List (BitVec 8))) (hp : Pcs w w.heap.size vs ls) (n : Nat) (hn : vs.length = n) (hn2 : n ≤ 1000000) (hl : ls.flatten.length ≤ 17592186044416) :
    Calls Tryd.prog 17 #[.slice (some ⟨w.heap.size, 0, none⟩) n n] (w.alloc (.cells arr 22)) fun e w' => ∃ v, e = .returned v ∧ FreshV w' w.heap.size v ls.flatten ∧ Below w.heap.size w w' := by
  obtain ⟨hpv, hb⟩ := parts_new w vs arr ha ls hp n hn hn2
  obtain ⟨W2, e2⟩ : ∃ W, w.alloc (.cells arr 22) = W := ⟨_, rfl⟩
  rw [e2] at hpv hb ⊢
  refine (concat_any W2 _ _ n n ls hpv (Nat.le_refl _) hn2 hl).mono ?_
  rintro e w3 ⟨v, rfl, ho, hb3⟩
  exact ⟨v, rfl, (FreshV.of_own ho).mono_ hb.size, hb.trans (hb3.mono hb.size)⟩
theorem ofA (w : World) (k : Int) (hG : StartsG w) (hR : RootsG w) (vs : List Value) (arr : Array Value) (ha : vs.toArray = arr) (ls : List (List (BitVec 8))) (hp : Pcs w w.heap.size vs ls) (n : Nat) (hn : vs.length = n) (hn2 : n ≤ 1000000) (hl : ls.flatten.length + 256 ≤ 17592186044416) :
    Calls Tryd.prog 15 #[.int .i64 k, .slice (some ⟨w.heap.size, 0, none⟩) n n] (w.alloc (.cells arr 22)) fun e w' => ∃ v, e = .returned v ∧ FreshV w' w.heap.size v (sumK k ls.flatten) ∧ Below w.heap.size w w' := by
  obtain ⟨hpv, hb⟩ := parts_new w vs arr ha ls hp n hn hn2
  obtain ⟨W2, e2⟩ : ∃ W, w.alloc (.cells arr 22) = W := ⟨_, rfl⟩
  rw [e2] at hpv hb ⊢
  refine (hofK_any W2 k (hG.later hb) (hR.later hb) _ _ n n ls hpv (Nat.le_refl _) (by omega) hl).mono ?_
  rintro e w3 ⟨v, rfl, ho, hb3⟩
  exact ⟨v, rfl, ho.mono_ hb.size, hb.trans (hb3.mono hb.size)⟩
/-- a literal of bytes, just built -/
theorem freshA (w : World) (l : List (BitVec 8)) (arr : Array Value) (ha : (l.map W8).toArray = arr) (n : Nat) (hn : l.length = n) (hl : n ≤ 1000000) :
    FreshV (w.alloc (.cells arr 5)) w.heap.size (.slice (some ⟨w.heap.size, 0, none⟩) n n) l ∧ Below w.heap.size w (w.alloc (.cells arr 5)) := by
  obtain ⟨W2, e2, r2, b2, z⟩ := newV w 5 (l.map W8) arr ha
  rw [e2]
  exact ⟨FreshV.row_ r2 (Nat.le_refl _) hn (by omega), b2⟩
end Go.Proofs.YtnpaidieijlkkabDoor

/- pad: kinds, identifiers, elements, Info. -/
set_option linter.unusedVariables false
set_option linter.unusedSimpArgs false
namespace Go.Proofs.YtnpaidieijlkkabDoor
open Go.RowKit Go.Shelf

def okB (k : Int) (n : Nat) : Bool := decide (0 < sizeV k ∧ (n : Int) = sizeV k)
theorem sizeV_bd (k : Int) : 0 ≤ sizeV k ∧ sizeV k ≤ 64 := by
  unfold sizeV
  split; decide
  split; decide
  split; decide
  split; decide
  split; decide
  decide
set_option maxRecDepth 100000 in
theorem pishash_any (w : World) (k : Int) (A : Option Addr) (n c : Nat) :
    Calls Tryd.prog 25 #[.int .i64 k, .slice A n c] w fun e w' => e = .returned (.bool (okB k n)) ∧ w = w' := by
  have hs := size_any w k
  obtain ⟨z, hz⟩ : ∃ z, sizeV k = z := ⟨_, rfl⟩
  have hzb := sizeV_bd k
  rw [hz] at hs hzb
  have hz0 := hzb.1
  have hz64 := hzb.2
  have HS := Lib.hid hs
  have hok : okB k n = decide (0 < z ∧ (n : Int) = z) := by rw [okB, hz]
  rw [hok]
  clear hs hz hok hzb
  by_cases h0 : 0 < z
  · by_cases h1 : (n : Int) = z
    · rw [decide_eq_true (⟨h0, h1⟩ : 0 < z ∧ (n : Int) = z)]
      have hb : ((n : Int) == z) = true := by simpa using h1
      have HH := Lib.hid h1
      clear h1
      go_enter Tryd.func25, Tryd.ntmps25
      go_wp2_with fail
      refine HS.out.mono ?_
      rintro e w' ⟨rfl, rfl⟩
      go_wp2
      go_ret
      exact ⟨by first | rfl | simp [hb] | (simp [HH.out]), rfl⟩
    · rw [decide_eq_false (fun h : 0 < z ∧ (n : Int) = z => h1 h.2)]
      have hb : ((n : Int) == z) = false := by simpa using h1
      go_enter Tryd.func25, Tryd.ntmps25
      go_wp2_with fail
      refine HS.out.mono ?_
      rintro e w' ⟨rfl, rfl⟩
      go_wp2
      go_ret
      exact ⟨by first | rfl | simp [hb] | (simp [h1]), rfl⟩
  · rw [decide_eq_false (fun h : 0 < z ∧ (n : Int) = z => h0 h.1)]
    go_enter Tryd.func25, Tryd.ntmps25
    go_wp2_with fail
    refine HS.out.mono ?_
    rintro e w' ⟨rfl, rfl⟩
    go_wp2
    go_ret
    exact ⟨rfl, rfl⟩
def sha2L (x : BitVec 8) : List (BitVec 8) := [0x60, 0x86, 0x48, 0x01, 0x65, 0x03, 0x04, 0x02, x]
theorem psha2_any (w : World) (x : BitVec 8) :
    Calls Tryd.prog 41 #[W8 x] w fun e w' => ∃ v, e = .returned v ∧ FreshV w' w.heap.size v (sha2L x) ∧ Below w.heap.size w w' := by
  have hf := freshA w (sha2L x) #[.int .u8 96, .int .u8 134, .int .u8 72, .int .u8 1, .int .u8 101, .int .u8 3, .int .u8 4, .int .u8 2, W8 x] rfl 9 rfl (by decide)
  obtain ⟨W1, e1⟩ : ∃ W, w.alloc (.cells #[.int .u8 96, .int .u8 134, .int .u8 72, .int .u8 1, .int .u8 101, .int .u8 3, .int .u8 4, .int .u8 2, W8 x] 5) = W := ⟨_, rfl⟩
  rw [e1] at hf
  have HF := Lib.hid hf
  clear hf
  go_enter Tryd.func41, Tryd.ntmps41
  go_wp2
  go_ret
  exact ⟨_, rfl, HF.out.1, HF.out.2⟩
def oidL (k : Int) : List (BitVec 8) := if k = 1 then [0x2b, 0x0e, 0x03, 0x02, 0x1a] else if k = 2 then sha2L 4 else if k = 3 then sha2L 1 else if k = 4 then sha2L 2 else sha2L 3
theorem oidL_le (k : Int) : (oidL k).length ≤ 9 := by
  unfold oidL
  split; decide
  split; decide
  split; decide
  split; decide
  decide
set_option maxRecDepth 100000 in
theorem pident_any (w : World) (k : Int) :
    Calls Tryd.prog 27 #[.int .i64 k] w fun e w' => ∃ v, e = .returned v ∧ FreshV w' w.heap.size v (oidL k) ∧ Below w.heap.size w w' := by
  by_cases h1 : k = 1
  · subst h1
    have hf := freshA w (oidL 1) #[.int .u8 43, .int .u8 14, .int .u8 3, .int .u8 2, .int .u8 26] rfl 5 rfl (by decide)
    obtain ⟨W1, e1⟩ : ∃ W, w.alloc (.cells #[.int .u8 43, .int .u8 14, .int .u8 3, .int .u8 2, .int .u8 26] 5) = W := ⟨_, rfl⟩
    rw [e1] at hf
    have HF := Lib.hid hf
    clear hf
    go_enter Tryd.func27, Tryd.ntmps27
    go_wp2
    go_ret
    exact ⟨_, rfl, HF.out.1, HF.out.2⟩
  · have k1 : (k == 1) = false := by simpa using h1
    by_cases h2 : k = 2
    · subst h2
      have hs := psha2_any w 4
      have HS := Lib.hid hs
      clear hs
      go_enter Tryd.func27, Tryd.ntmps27
      go_wp2_with fail
      refine HS.out.mono ?_
      rintro e w1 ⟨v, rfl, hf, hb⟩
      have HF := Lib.hid hf
      clear hf
      go_wp2
      go_ret
      exact ⟨_, rfl, HF.out, hb⟩
    · have k2 : (k == 2) = false := by simpa using h2
      by_cases h3 : k = 3
      · subst h3
        have hs := psha2_any w 1
        have HS := Lib.hid hs
        clear hs
        go_enter Tryd.func27, Tryd.ntmps27
        go_wp2_with fail
        refine HS.out.mono ?_
        rintro e w1 ⟨v, rfl, hf, hb⟩
        have HF := Lib.hid hf
        clear hf
        go_wp2
        go_ret
        exact ⟨_, rfl, HF.out, hb⟩
      · have k3 : (k == 3) = false := by simpa using h3
        by_cases h4 : k = 4
        · subst h4
          have hs := psha2_any w 2
          have HS := Lib.hid hs
          clear hs
          go_enter Tryd.func27, Tryd.ntmps27
          go_wp2_with fail
          refine HS.out.mono ?_
          rintro e w1 ⟨v, rfl, hf, hb⟩
          have HF := Lib.hid hf
          clear hf
          go_wp2
          go_ret
          exact ⟨_, rfl, HF.out, hb⟩
        · have k4 : (k == 4) = false := by simpa using h4
          have hs := psha2_any w 3
          have HS := Lib.hid hs
          have ho : oidL k = sha2L 3 := by rw [oidL, if_neg h1, if_neg h2, if_neg h3, if_neg h4]
          have HO := Lib.hid ho
          clear hs ho
          go_enter Tryd.func27, Tryd.ntmps27
          go_wp2_with fail
          refine HS.out.mono ?_
          rintro e w1 ⟨v, rfl, hf, hb⟩
          have HF := Lib.hid hf
          clear hf
          go_wp2
          go_ret
          rw [HO.out]
          exact ⟨_, rfl, HF.out, hb⟩
def elemL (tag : BitVec 8) (body : List (BitVec 8)) : List (BitVec 8) := tag :: BitVec.ofNat 8 body.length :: body
theorem elemL_length (tag : BitVec 8) (body : List (BitVec 8)) : (elemL tag body).length = body.length + 2 := by simp [elemL]
theorem W8_ofNat (k : Nat) (h : k < 256) : W8 (BitVec.ofNat 8 k) = .int .u8 (k : Int) := by
  show Value.int .u8 (i8 (BitVec.ofNat 8 k)) = _
  congr 1
  unfold i8
  rw [BitVec.toNat_ofNat]
  omega
set_option maxRecDepth 100000 in
set_option maxHeartbeats 1000000 in
theorem pelem_any (w : World) (tag : BitVec 8) (B : Nat) (A : Option Addr) (n c : Nat) (pss : List (List (BitVec 8))) (hs : PartsV w B A n c pss) (hB : B ≤ w.heap.size) (hn : n ≤ 1000000) (hl : pss.flatten.length < 128) :
    Calls Tryd.prog 26 #[W8 tag, .slice A n c] w fun e w' => ∃ v, e = .returned v ∧ FreshV w' w.heap.size v (elemL tag pss.flatten) ∧ Below w.heap.size w w' := by
  have hc := concat_any w B A n c pss hs hB hn (by omega)
  obtain ⟨body, hbody⟩ : ∃ l, pss.flatten = l := ⟨_, rfl⟩
  rw [hbody] at hc hl ⊢
  obtain ⟨L, hL⟩ : ∃ L, body.length = L := ⟨_, rfl⟩
  rw [hL] at hc hl
  obtain ⟨g, hg⟩ : ∃ g, w.heap.size = g := ⟨_, rfl⟩
  rw [hg] at hc ⊢
  have hLI : (L : Int) < 128 := by omega
  have HC := Lib.hid hc
  have HL := Lib.hid hL
  have HLB := Lib.hid hl
  have HG := Lib.hid hg
  clear hc hL hbody hs hn hB hl hg
  go_enter Tryd.func26, Tryd.ntmps26
  go_wp2_with fail
  refine HC.out.mono ?_
  rintro e w1 ⟨v, rfl, hown, hb1⟩
  obtain ⟨A1, c1, rfl, hsl, hz⟩ := own_all hown
  have hf := freshA w1 [tag, BitVec.ofNat 8 L] #[W8 tag, .int .u8 (L : Int)] (by show #[W8 tag, W8 (BitVec.ofNat 8 L)] = _; rw [W8_ofNat L (by have := HLB.out; omega)]) 2 rfl (by decide)
  obtain ⟨W2, e2⟩ : ∃ W, w1.alloc (.cells #[W8 tag, .int .u8 (L : Int)] 5) = W := ⟨_, rfl⟩
  rw [e2] at hf
  have hcc := concatA W2 [.slice (some ⟨w1.heap.size, 0, none⟩) 2 2, .slice A1 L c1] #[.slice (some ⟨w1.heap.size, 0, none⟩) 2 2, .slice A1 L c1] rfl [[tag, BitVec.ofNat 8 L], body] ⟨hf.1.pc, (Pc.of_sl hsl hz).up hf.2, trivial⟩ 2 rfl (by decide) (by simp [HL.out]; have := HLB.out; omega)
  have HCC := Lib.hid hcc
  have hg1 : g ≤ w1.heap.size := by have := hb1.size; have := HG.out; omega
  have hb2 : Below g w W2 := hb1.trans (hf.2.mono hg1)
  have hgs : g ≤ W2.heap.size := Nat.le_trans hg1 hf.2.size
  have HB2 := Lib.hid hb2
  have HGS := Lib.hid hgs
  clear hcc hf hsl hown hb1 hb2 hgs hz
  go_wp2_with fail
  refine HCC.out.mono ?_
  rintro e w3 ⟨v3, rfl, hf3, hb3⟩
  have HF3 := Lib.hid (hf3.mono_ HGS.out)
  have HB3 := Lib.hid (HB2.out.trans (hb3.mono HGS.out))
  clear hf3 hb3
  go_wp2
  go_ret
  refine ⟨_, rfl, ?_, HB3.out⟩
  have h := HF3.out
  rw [elemL, HL.out]
  simpa using h
end Go.Proofs.YtnpaidieijlkkabDoor

/- pad: Info. -/
set_option linter.unusedVariables false
set_option linter.unusedSimpArgs false
namespace Go.Proofs.YtnpaidieijlkkabDoor
open Go.RowKit Go.Shelf

theorem elemA (w : World) (tag : BitVec 8) (vs : List Value) (arr : Array Value) (ha : vs.toArray = arr) (ls : List (List (BitVec 8))) (hp : Pcs w w.heap.size vs ls) (n : Nat) (hn : vs.length = n) (hn2 : n ≤ 1000000) (hl : ls.flatten.length < 128) :
    Calls Tryd.prog 26 #[W8 tag, .slice (some ⟨w.heap.size, 0, none⟩) n n] (w.alloc (.cells arr 22)) fun e w' => ∃ v, e = .returned v ∧ FreshV w' w.heap.size v (elemL tag ls.flatten) ∧ Below w.heap.size w w' := by
  obtain ⟨hpv, hb⟩ := parts_new w vs arr ha ls hp n hn hn2
  obtain ⟨W2, e2⟩ : ∃ W, w.alloc (.cells arr 22) = W := ⟨_, rfl⟩
  rw [e2] at hpv hb ⊢
  refine (pelem_any W2 tag _ _ n n ls hpv (Nat.le_refl _) hn2 hl).mono ?_
  rintro e w3 ⟨v, rfl, ho, hb3⟩
  exact ⟨v, rfl, ho.mono_ hb.size, hb.trans (hb3.mono hb.size)⟩
def infoL (k : Int) (hash : List (BitVec 8)) : List (BitVec 8) := elemL 0x30 (elemL 0x30 (elemL 6 (oidL k) ++ elemL 5 []) ++ elemL 4 hash)
theorem infoL_alg (k : Int) : (elemL 0x30 (elemL 6 (oidL k) ++ elemL 5 [])).length ≤ 15 := by
  have := oidL_le k
  rw [elemL_length, List.length_append, elemL_length, elemL_length]
  simp
  omega
set_option maxRecDepth 100000 in
theorem pinfo_no (w : World) (k : Int) (A : Option Addr) (n c : Nat) (h : okB k n = false) :
    Calls Tryd.prog 10 #[.int .i64 k, .slice A n c] w fun e w' => e = .returned (.tuple #[.slice none 0 0, .bool false]) ∧ w = w' := by
  have hi := pishash_any w k A n c
  rw [h] at hi
  have HI := Lib.hid hi
  clear hi h
  go_enter Tryd.func10, Tryd.ntmps10
  go_wp2_with fail
  refine HI.out.mono ?_
  rintro e w' ⟨rfl, rfl⟩
  go_wp2
  go_ret2
  exact ⟨rfl, rfl⟩
set_option maxRecDepth 100000 in
set_option maxHeartbeats 2000000 in
theorem pinfo_ok (w : World) (k : Int) (B : Nat) (A : Option Addr) (n c : Nat) (hash : List (BitVec 8)) (hs : SlV w B A n c (hash.map W8)) (hz : A = none → c = 0) (hB : B ≤ w.heap.size) (h : okB k n = true) :
    Calls Tryd.prog 10 #[.int .i64 k, .slice A n c] w fun e w' => ∃ v, e = .returned (.tuple #[v, .bool true]) ∧ FreshV w' w.heap.size v (infoL k hash) ∧ Below w.heap.size w w' := by
  have hi := pishash_any w k A n c
  rw [h] at hi
  have hn : n ≤ 64 := by
    have h1 := of_decide_eq_true h
    have := (sizeV_bd k).2
    omega
  have hl : hash.length = n := by simpa using hs.len.symm
  have hid := pident_any w k
  have hpc : Pc w w.heap.size (.slice A n c) hash := (Pc.of_sl hs hz).more hB
  have HI := Lib.hid hi
  have HID := Lib.hid hid
  have HP := Lib.hid hpc
  have HN := Lib.hid (⟨hn, hl⟩ : n ≤ 64 ∧ hash.length = n)
  clear hi hid hpc hs hz hB h hn hl
  go_enter Tryd.func10, Tryd.ntmps10
  go_wp2_with fail
  refine HI.out.mono ?_
  rintro e w' ⟨rfl, rfl⟩
  go_wp2_with fail
  refine HID.out.mono ?_
  rintro e w1 ⟨v1, rfl, hf1, hb1⟩
  obtain ⟨A1, n1, c1, rfl⟩ := hf1.form
  have h2 : Calls Tryd.prog 26 #[.int .u8 6, .slice (some ⟨w1.heap.size, 0, none⟩) 1 1] (w1.alloc (.cells #[.slice A1 n1 c1] 22)) fun e w' => ∃ v, e = .returned v ∧ FreshV w' w1.heap.size v (elemL 6 (oidL k)) ∧ Below w1.heap.size w1 w' := by
    have h := elemA w1 6 [.slice A1 n1 c1] #[.slice A1 n1 c1] rfl [oidL k] ⟨hf1.pc, trivial⟩ 1 rfl (by decide) (by have := oidL_le k; simp; omega)
    rw [show W8 6 = .int .u8 6 from rfl] at h
    simpa using h
  have H2 := Lib.hid h2
  have HB1 := Lib.hid hb1
  clear h2 hf1 hb1
  go_wp2_with fail
  refine H2.out.mono ?_
  rintro e w2 ⟨v2, rfl, hf2, hb2⟩
  obtain ⟨A2, n2, c2, rfl⟩ := hf2.form
  have h3 : Calls Tryd.prog 26 #[.int .u8 5, .slice none 0 0] w2 fun e w' => ∃ v, e = .returned v ∧ FreshV w' w2.heap.size v (elemL 5 []) ∧ Below w2.heap.size w2 w' := pelem_any w2 5 w2.heap.size none 0 0 [] (PartsV.nil _ _ _ (by decide)) (Nat.le_refl _) (by decide) (by decide)
  have H3 := Lib.hid h3
  have hb02 : Below w.heap.size w w2 := HB1.out.trans (hb2.mono HB1.out.size)
  have HB2 := Lib.hid hb02
  have HF2 := Lib.hid hf2
  clear h3 hf2 hb2 hb02 H2 HB1
  go_wp2_with fail
  refine H3.out.mono ?_
  rintro e w3 ⟨v3, rfl, hf3, hb3⟩
  obtain ⟨A3, n3, c3, rfl⟩ := hf3.form
  have h4 : Calls Tryd.prog 26 #[.int .u8 48, .slice (some ⟨w3.heap.size, 0, none⟩) 2 2] (w3.alloc (.cells #[.slice A2 n2 c2, .slice A3 n3 c3] 22)) fun e w' => ∃ v, e = .returned v ∧ FreshV w' w3.heap.size v (elemL 0x30 (elemL 6 (oidL k) ++ elemL 5 [])) ∧ Below w3.heap.size w3 w' := by
    have h := elemA w3 0x30 [.slice A2 n2 c2, .slice A3 n3 c3] #[.slice A2 n2 c2, .slice A3 n3 c3] rfl [elemL 6 (oidL k), elemL 5 []] ⟨HF2.out.pc.up hb3, hf3.pc, trivial⟩ 2 rfl (by decide) (by have := oidL_le k; simp [elemL_length]; omega)
    rw [show W8 0x30 = .int .u8 48 from rfl] at h
    simpa using h
  have H4 := Lib.hid h4
  have HB3 := Lib.hid (HB2.out.trans (hb3.mono HB2.out.size))
  clear h4 hf3 hb3 H3 HF2 HB2
  go_wp2_with fail
  refine H4.out.mono ?_
  rintro e w4 ⟨v4, rfl, hf4, hb4⟩
  obtain ⟨A4, n4, c4, rfl⟩ := hf4.form
  have hb04 : Below w.heap.size w w4 := HB3.out.trans (hb4.mono HB3.out.size)
  have h5 : Calls Tryd.prog 26 #[.int .u8 4, .slice (some ⟨w4.heap.size, 0, none⟩) 1 1] (w4.alloc (.cells #[.slice A n c] 22)) fun e w' => ∃ v, e = .returned v ∧ FreshV w' w4.heap.size v (elemL 4 hash) ∧ Below w4.heap.size w4 w' := by
    have h := elemA w4 4 [.slice A n c] #[.slice A n c] rfl [hash] ⟨HP.out.up hb04, trivial⟩ 1 rfl (by decide) (by have := HN.out; simp; omega)
    rw [show W8 4 = .int .u8 4 from rfl] at h
    simpa using h
  have H5 := Lib.hid h5
  have HB4 := Lib.hid hb04
  have HF4 := Lib.hid hf4
  clear h5 hf4 hb4 hb04 H4 HB3
  go_wp2_with fail
  refine H5.out.mono ?_
  rintro e w5 ⟨v5, rfl, hf5, hb5⟩
  obtain ⟨A5, n5, c5, rfl⟩ := hf5.form
  have h6 : Calls Tryd.prog 26 #[.int .u8 48, .slice (some ⟨w5.heap.size, 0, none⟩) 2 2] (w5.alloc (.cells #[.slice A4 n4 c4, .slice A5 n5 c5] 22)) fun e w' => ∃ v, e = .returned v ∧ FreshV w' w5.heap.size v (infoL k hash) ∧ Below w5.heap.size w5 w' := by
    have h := elemA w5 0x30 [.slice A4 n4 c4, .slice A5 n5 c5] #[.slice A4 n4 c4, .slice A5 n5 c5] rfl [elemL 0x30 (elemL 6 (oidL k) ++ elemL 5 []), elemL 4 hash] ⟨HF4.out.pc.up hb5, hf5.pc, trivial⟩ 2 rfl (by decide) (by have := infoL_alg k; have := HN.out; simp [elemL_length] at this ⊢; simp [elemL_length] at *; omega)
    rw [show W8 0x30 = .int .u8 48 from rfl] at h
    simpa [infoL] using h
  have H6 := Lib.hid h6
  have HB5 := Lib.hid (HB4.out.trans (hb5.mono HB4.out.size))
  clear h6 hf5 hb5 H5 HF4 HB4
  go_wp2_with fail
  refine H6.out.mono ?_
  rintro e w6 ⟨v6, rfl, hf6, hb6⟩
  have HF6 := Lib.hid (hf6.mono_ HB5.out.size)
  have HB6 := Lib.hid (HB5.out.trans (hb6.mono HB5.out.size))
  clear hf6 hb6
  go_wp2
  go_ret2
  exact ⟨_, rfl, HF6.out, HB6.out⟩
end Go.Proofs.YtnpaidieijlkkabDoor

/- pad: the mask. -/
set_option linter.unusedVariables false
set_option linter.unusedSimpArgs false
namespace Go.Proofs.YtnpaidieijlkkabDoor
open Go.RowKit Go.Shelf

theorem own_row2 {w : World} {base : Nat} {e : TypeId} {v : Value} {n : Nat} {xs : List Value} (h : w.ownsRow base e 1 v n xs) (hn : 0 < n) :
    ∃ g c ys, v = .slice (some ⟨g, 0, none⟩) n c ∧ base ≤ g ∧ RowV e w g ys ∧ ys.length = c ∧ n ≤ c ∧ c ≤ maxLen ∧ ys.take n = xs := by
  rcases h.2 with ⟨e0, h4⟩ | ⟨g, cap, cur, e0, h4, hg, hnc, hm, hcs, ht⟩
  · omega
  · exact ⟨g, cap, cur.toList, e0, h4, by unfold RowV; rw [hg], by simpa using hcs, hnc, hm, by simpa using ht⟩
theorem own_of_row {w : World} {base g : Nat} {e : TypeId} {n c : Nat} {ys xs : List Value} (h : RowV e w g ys) (hb : base ≤ g) (hl : ys.length = c) (hn : n ≤ c) (hm : c ≤ maxLen) (ht : ys.take n = xs) : w.ownsRow base e 1 (.slice (some ⟨g, 0, none⟩) n c) n xs :=
  ⟨by rw [← ht, List.length_take]; omega, .inr ⟨g, c, ys.toArray, rfl, hb, h, hn, hm, by simpa using hl, by simpa using ht⟩⟩
def xorL (a b : List (BitVec 8)) : List (BitVec 8) := List.zipWith (· ^^^ ·) a b
theorem xorL_comm (a b : List (BitVec 8)) : xorL a b = xorL b a := by
  unfold xorL
  rw [List.zipWith_comm]
  congr 1
  funext x y
  exact BitVec.xor_comm _ _
theorem xorL_length (a b : List (BitVec 8)) : (xorL a b).length = min a.length b.length := by simp [xorL]
theorem xorL_at {a b : List (BitVec 8)} {i : Nat} {x y : BitVec 8} (h1 : a[i]? = some x) (h2 : b[i]? = some y) : (xorL a b)[i]? = some (x ^^^ y) := by
  rw [xorL, List.getElem?_zipWith, h1, h2]
theorem xorL_twice {a b : List (BitVec 8)} (h : a.length ≤ b.length) : xorL (xorL a b) b = a := by
  induction a generalizing b with
  | nil => rfl
  | cons x a ih =>
    cases b with
    | nil => simp at h
    | cons y b =>
      have := ih (b := b) (by simpa using h)
      simp only [xorL, List.zipWith_cons_cons] at this ⊢
      rw [this, BitVec.xor_assoc, BitVec.xor_self, BitVec.xor_zero]
set_option maxRecDepth 100000 in
set_option maxHeartbeats 2000000 in
theorem pmasked_any (w : World) (k : Int) (hk : KindOk k) (hGS : StartsG w) (hGR : RootsG w) (B : Nat) (A1 : Option Addr) (n1 c1 : Nat) (b : List (BitVec 8)) (h1 : SlV w B A1 n1 c1 (b.map W8)) (A2 : Option Addr) (n2 c2 : Nat) (sd : List (BitVec 8)) (h2 : SlV w B A2 n2 c2 (sd.map W8)) (z2 : A2 = none → c2 = 0) (hB : B ≤ w.heap.size) (hn1 : 1 ≤ n1) (hn1' : n1 ≤ 65536) (hn2 : n2 ≤ 1000000) :
    Calls Tryd.prog 16 #[.int .i64 k, .slice A1 n1 c1, .slice A2 n2 c2] w fun e w' => ∃ v, e = .returned v ∧ w'.ownsRow w.heap.size 5 1 v n1 ((xorL b (mgfL k sd n1)).map W8) ∧ Below w.heap.size w w' := by
  have hm := mgf_any w k hk hGS hGR B A2 n2 c2 sd h2 z2 hB (by omega) n1 hn1 hn1'
  obtain ⟨X, hX⟩ : ∃ X, mgfL k sd n1 = X := ⟨_, rfl⟩
  have hXl : X.length = n1 := by rw [← hX]; exact mgfL_length hk _ _
  rw [hX] at hm ⊢
  have hbl : b.length = n1 := by simpa using h1.len.symm
  obtain ⟨M, hM⟩ : ∃ M, xorL X b = M := ⟨_, rfl⟩
  have hMl : M.length = n1 := by rw [← hM, xorL_length]; omega
  rw [xorL_comm, hM]
  obtain ⟨b1, o1, _, rfl, hb1l, _, _⟩ := h1.at_ (k := 0) (by omega)
  obtain ⟨G, hG⟩ : ∃ g, w.heap.size = g := ⟨_, rfl⟩
  rw [hG] at hm ⊢
  have hBG : B ≤ G := by omega
  have i1 : (n1 : Int) ≤ 65536 := by omega
  have i0 : (1 : Int) ≤ n1 := by omega
  have HM := Lib.hid hm
  have HX := Lib.hid hXl
  have HBL := Lib.hid hbl
  have HMX := Lib.hid hM
  have HML := Lib.hid hMl
  have HS1 := Lib.hid h1
  have HG := Lib.hid hG
  clear hm hXl hbl hM hMl h1 h2 hG hGS hGR hX hn2 z2
  go_enter Tryd.func16, Tryd.ntmps16
  go_wp2_with fail
  refine HM.out.mono ?_
  rintro e w1 ⟨v, rfl, hown, hb1⟩
  obtain ⟨g, c, ys, rfl, hgB, hrow, hyl, hnc, hcm, htk⟩ := own_row2 hown (by omega)
  have hcI : (n1 : Int) ≤ c := by omega
  have HYL := Lib.hid hyl
  have HTK := Lib.hid htk
  have HNC := Lib.hid (⟨hnc, hcm⟩ : n1 ≤ c ∧ c ≤ maxLen)
  have hrow0 : RowV 5 w1 g ((M.map W8).take 0 ++ ys.drop 0) := by simpa using hrow
  have HR0 := Lib.hid hrow0
  have HB1 := Lib.hid hb1
  clear hown hrow hrow0 hyl htk hnc hcm hb1
  go_wp2
  go_loopw [17] (fun i wr => ∃ j : Nat, j ≤ n1 ∧ i = .int .i64 (j : Int) ∧ Hid (RowV 5 wr g ((M.map W8).take j ++ ys.drop j)) ∧ Hid (Below G w wr)) (fun i _ => n1 - (intOf i).toNat)
  case atStart => exact ⟨0, by omega, rfl, HR0, HB1⟩
  case round =>
    obtain ⟨j, hj, rfl, HR, HB⟩ := hrel
    by_cases hjn : j = n1
    · subst hjn
      go_wp2
      go_ret
      refine ⟨_, rfl, ?_, HB.out⟩
      have hr := HR.out
      rw [List.take_of_length_le (by rw [List.length_map]; exact Nat.le_of_eq HML.out)] at hr
      refine own_of_row hr hgB ?_ HNC.out.1 HNC.out.2 ?_
      · rw [List.length_append, List.length_map, HML.out, List.length_drop, HYL.out]
        have := HNC.out.1
        omega
      · rw [List.take_left' (by rw [List.length_map, HML.out])]
    · have hji : (j : Int) < n1 := by omega
      have hjl : j < n1 := by omega
      obtain ⟨x, hx⟩ : ∃ x, b[j]? = some x := ⟨_, List.getElem?_eq_getElem (by have := HBL.out; omega)⟩
      obtain ⟨y, hy⟩ : ∃ y, X[j]? = some y := ⟨_, List.getElem?_eq_getElem (by have := HX.out; omega)⟩
      have hyy : ys[j]? = some (W8 y) := by
        have h := congrArg (fun l => l[j]?) HTK.out
        simp only [List.getElem?_take, if_pos hjl, List.getElem?_map, hy, Option.map_some] at h
        exact h
      have hMj : (M.map W8)[j]? = some (W8 (y ^^^ x)) := by rw [List.getElem?_map, ← HMX.out, xorL_at hy hx]; rfl
      have hcb : wr.cell? ⟨b1, o1 + j, none⟩ = some (W8 x) := by
        obtain ⟨b', o', v', e', _, hv', hc'⟩ := (HS1.out.below (HB.out.mono hBG)).at_ (k := j) hjl
        injection e' with e'
        injection e' with e1 e2 _
        subst e1 e2
        rw [List.getElem?_map, hx] at hv'
        cases hv'
        exact hc'
      have hcl : wr.cell? ⟨g, j, none⟩ = some (W8 y) := HR.out.at_ (by rw [mid_get _ _ _ (by rw [List.length_map]; have := HML.out; omega), hyy])
      have hfz := HR.out.frozen j
      have hr2 := HR.out.set j (W8 (y ^^^ x))
      rw [mid_set _ _ _ _ hMj (by have := HYL.out; have := HNC.out.1; omega)] at hr2
      have hB2 := below_setV HB.out hgB j (W8 (y ^^^ x))
      have hxo := b8_xor y x
      have hjc : (j : Int) < c := by omega
      have HR2 := Lib.hid hr2
      have HB2 := Lib.hid hB2
      clear hr2 hB2 hx hy hyy hMj
      go_wp2
      go_roundw
      case rel => exact ⟨j + 1, by omega, by go_num, HR2, HB2⟩
      case measure => simp [intOf]; omega
end Go.Proofs.YtnpaidieijlkkabDoor

/- The library contracts that are laid beside those of the first laying: the same tool, the same form. -/

namespace Go.Proofs
open Go.Shelf
end Go.Proofs

/- bytes: CutPrefix, Equal, IndexByte, TrimLeft, and slices.Clone, over lists. -/
set_option linter.unusedVariables false
set_option linter.unusedSimpArgs false
namespace Go.Proofs.YtnpaidieijlkkabDoor
open Go.RowKit Go.Shelf

def u8of (b : BitVec 8) : UInt8 := UInt8.ofNat (i8 b).toNat
theorem u8of_inj {a b : BitVec 8} (h : u8of a = u8of b) : a = b := by
  have h1 := congrArg UInt8.toNat h
  unfold u8of i8 at h1
  simp only [Int.toNat_natCast, UInt8.toNat_ofNat'] at h1
  have ha := a.isLt
  have hb := b.isLt
  exact BitVec.eq_of_toNat_eq (by omega)
theorem u8of_beq (a b : BitVec 8) : (u8of a == u8of b) = (a == b) := by
  by_cases h : a = b
  · subst h; simp
  · rw [beq_eq_false_iff_ne.2 h, beq_eq_false_iff_ne.2 (fun e => h (u8of_inj e))]
theorem bytesOf_map (l : List (BitVec 8)) : Lib.bytesOf (l.map i8) = l.map u8of := by simp [Lib.bytesOf, u8of]
theorem pre_map : ∀ (p l : List (BitVec 8)), (p.map u8of).isPrefixOf (l.map u8of) = p.isPrefixOf l
  | [], _ => by simp
  | _ :: _, [] => by simp
  | a :: p, b :: l => by simp only [List.map_cons, List.isPrefixOf_cons_cons, u8of_beq, pre_map p l]
theorem eq_map : ∀ (p l : List (BitVec 8)), (p.map u8of == l.map u8of) = decide (p = l) := by
  intro p l
  by_cases h : p = l
  · subst h; simp
  · rw [decide_eq_false h, beq_eq_false_iff_ne]
    exact fun e => h ((List.map_inj_right (fun a b h => u8of_inj h)).1 e)
theorem bytesIn {w : World} {B n c : Nat} {A : Option Addr} {l : List (BitVec 8)} (h : SlV w B A n c (l.map W8)) : Lib.BytesIn w A n (l.map i8) := fun hn => by
  obtain ⟨b, o, _, e, _⟩ := h.at_ (k := 0) hn
  refine ⟨b, o, e, fun i hi => ?_⟩
  obtain ⟨b', o', v, e', _, hv, hc⟩ := h.at_ (k := i) hi
  rw [e] at e'
  injection e' with e'
  injection e' with e1 e2 _
  subst e1 e2
  rw [hc]
  rw [List.getElem?_map, Option.map_eq_some_iff] at hv
  obtain ⟨x, hx, rfl⟩ := hv
  rw [List.getD_eq_getElem?_getD, List.getElem?_map, hx]
  rfl
theorem len_i8 {w : World} {B n c : Nat} {A : Option Addr} {l : List (BitVec 8)} (h : SlV w B A n c (l.map W8)) : (l.map i8).length = n := by
  rw [List.length_map]; simpa using h.len.symm
theorem equal_any (w : World) (B : Nat) (A1 : Option Addr) (n1 c1 : Nat) (l1 : List (BitVec 8)) (h1 : SlV w B A1 n1 c1 (l1.map W8)) (B2 : Nat) (A2 : Option Addr) (n2 c2 : Nat) (l2 : List (BitVec 8)) (h2 : SlV w B2 A2 n2 c2 (l2.map W8)) :
    Calls Tryd.prog 18 #[.slice A1 n1 c1, .slice A2 n2 c2] w fun e w' => e = .returned (.bool (decide (l1 = l2))) ∧ w = w' := by
  refine (Tryd.bytes_Equal_all A1 A2 n1 c1 n2 c2 _ _ w (len_i8 h1) (len_i8 h2) (bytesIn h1) (bytesIn h2)).mono ?_
  rintro e w' ⟨rfl, rfl⟩
  rw [bytesOf_map, bytesOf_map, eq_map]
  exact ⟨rfl, rfl⟩
theorem cut_any (w : World) (B : Nat) (A1 : Option Addr) (n1 c1 : Nat) (l : List (BitVec 8)) (h1 : SlV w B A1 n1 c1 (l.map W8)) (z1 : A1 = none → c1 = 0) (B2 : Nat) (A2 : Option Addr) (n2 c2 : Nat) (p : List (BitVec 8)) (h2 : SlV w B2 A2 n2 c2 (p.map W8)) (hp : 0 < p.length) :
    Calls Tryd.prog 30 #[.slice A1 n1 c1, .slice A2 n2 c2] w fun e w' => ∃ A n c, e = .returned (.tuple #[.slice A n c, .bool (p.isPrefixOf l)]) ∧ w = w' ∧ Pc w B (.slice A n c) (if p.isPrefixOf l then l.drop p.length else l) := by
  refine (Tryd.bytes_CutPrefix_all A1 A2 n1 c1 n2 c2 _ _ w (len_i8 h1) (len_i8 h2) h1.cap (bytesIn h1) (bytesIn h2)).mono ?_
  rintro e w' ⟨rfl, rfl⟩
  have hpe : Lib.hasPrefix (Lib.bytesOf (l.map i8)) (Lib.bytesOf (p.map i8)) = p.isPrefixOf l := by rw [bytesOf_map, bytesOf_map, Lib.hasPrefix, pre_map]
  rw [hpe]
  obtain ⟨y, p', rfl⟩ : ∃ y p', p = y :: p' := by
    cases p with
    | nil => simp at hp
    | cons y p' => exact ⟨y, p', rfl⟩
  by_cases h : (y :: p').isPrefixOf l = true
  · rw [if_pos h]
    have hle : (y :: p').length ≤ l.length := (List.isPrefixOf_iff_prefix.1 h).length_le
    have hln : l.length = n1 := by simpa using h1.len.symm
    obtain ⟨b, o, _, rfl, _⟩ := h1.at_ (k := 0) (by simp at hle; omega)
    have hd := h1.dropIf (k := (y :: p').length) (by omega)
    rw [← List.map_drop] at hd
    refine ⟨_, _, _, ?_, rfl, Pc.of_sl hd ?_⟩
    · simp only [Lib.trimPrefixV, List.map_cons, Lib.bytesTrimPrefix]
      have hpe' := hpe
      rw [List.map_cons] at hpe'
      rw [hpe', if_pos h, h]
      simp [Lib.sliceFrom]
    · intro e
      split at e <;> cases e
  · rw [if_neg h]
    refine ⟨A1, n1, c1, ?_, rfl, Pc.of_sl h1 z1⟩
    have e : Lib.trimPrefixV A1 n1 c1 (l.map i8) ((y :: p').map i8) = .slice A1 n1 c1 := by
      unfold Lib.trimPrefixV
      split
      · unfold Lib.bytesTrimPrefix
        rw [hpe, if_neg h]
      · rfl
    rw [e]
/-- the place of the first x, or -1 -/
def idxL (x : BitVec 8) : List (BitVec 8) → Int
  | [] => -1
  | b :: l => if b = x then 0 else if idxL x l = -1 then -1 else idxL x l + 1
theorem idx_map (x : BitVec 8) : ∀ l : List (BitVec 8), Lib.indexByte (l.map u8of) (u8of x) = idxL x l
  | [] => rfl
  | b :: l => by
    rw [List.map_cons, Lib.indexByte, idxL, idx_map x l, u8of_beq]
    simp only [beq_iff_eq]
theorem idxL_ge (x : BitVec 8) : ∀ l : List (BitVec 8), -1 ≤ idxL x l ∧ idxL x l < l.length
  | [] => by simp [idxL]
  | b :: l => by
    have := idxL_ge x l
    rw [idxL, List.length_cons]
    split
    · omega
    · split <;> omega
/-- Clone, whatever comes: the same bytes in memory of its own -/
theorem cloneK_any (w : World) (B : Nat) (A : Option Addr) (n c : Nat) (l : List (BitVec 8)) (h : SlV w B A n c (l.map W8)) (hz : A = none → c = 0) (hB : B ≤ w.heap.size) (hn : n ≤ 17592186044416) :
    Calls Tryd.prog 32 #[.slice A n c] w fun e w' => ∃ v, e = .returned v ∧ FreshV w' w.heap.size v l ∧ Below w.heap.size w w' := by
  cases A with
  | none =>
    have h1 := hz rfl
    have h2 := h.cap
    obtain rfl : n = 0 := by omega
    subst h1
    obtain rfl : l = [] := List.eq_nil_of_length_eq_zero (by simpa using h.len.symm)
    refine (clone_nil w).mono ?_
    rintro e w' ⟨rfl, rfl⟩
    exact ⟨_, rfl, FreshV.nil_ _ _, Below.refl _ _⟩
  | some a =>
    refine (clone_any w B a n c l h hB hn).mono ?_
    rintro e w' ⟨v, rfl, ho, hb⟩
    exact ⟨v, rfl, FreshV.of_own ho, hb⟩
def dropX (x : BitVec 8) (l : List (BitVec 8)) : List (BitVec 8) := l.dropWhile (· == x)
def lenV : Value → Nat
  | .slice _ n _ => n
  | _ => 0
set_option maxRecDepth 100000 in
set_option maxHeartbeats 1000000 in
theorem trimByte_any (w : World) (B : Nat) (A : Option Addr) (n c : Nat) (l : List (BitVec 8)) (h : SlV w B A n c (l.map W8)) (hz : A = none → c = 0) (x : BitVec 8) :
    Calls Tryd.prog 43 #[.slice A n c, W8 x] w fun e w' => ∃ A' n' c', e = .returned (.slice A' n' c') ∧ w = w' ∧ Pc w B (.slice A' n' c') (dropX x l) := by
  have H := Lib.hid h
  have HZ := Lib.hid hz
  clear h hz
  go_enter Tryd.func43, Tryd.ntmps43
  go_wp2
  go_loopw [0] (fun v wr => w = wr ∧ ∃ (A' : Option Addr) (n' c' : Nat) (l' : List (BitVec 8)), v = .slice A' n' c' ∧ Hid (SlV w B A' n' c' (l'.map W8)) ∧ Hid (A' = none → c' = 0) ∧ Hid (dropX x l' = dropX x l)) (fun v _ => lenV v)
  case atStart => exact ⟨rfl, A, n, c, l, rfl, H, HZ, Lib.hid rfl⟩
  case round =>
    obtain ⟨rfl, A', n', c', l', rfl, H', HZ', HD⟩ := hrel
    clear H HZ
    obtain ⟨hcap, hmax⟩ : n' ≤ c' ∧ c' ≤ 9223372036854775807 := ⟨H'.out.cap, H'.out.max⟩
    have hlen : l'.length = n' := by simpa using H'.out.len.symm
    have HL := Lib.hid hlen
    clear hlen
    by_cases hn0 : n' = 0
    · subst hn0
      have hl0 : l' = [] := List.eq_nil_of_length_eq_zero HL.out
      have hp : Pc w B (.slice none 0 0) (dropX x l) := by
        rw [← HD.out, hl0]
        exact Pc.of_sl (l := []) (SlV.nil _ _ _ (by decide)) (fun _ => rfl)
      have HP := Lib.hid hp
      clear hp hl0
      go_wp2
      go_ret
      exact ⟨_, _, _, rfl, rfl, HP.out⟩
    · obtain ⟨b, o, v, rfl, _, hv, hc⟩ := H'.out.at_ (k := 0) (by omega)
      rw [Nat.add_zero] at hc
      obtain ⟨y, t, hl⟩ : ∃ y t, l' = y :: t := by
        cases l' with
        | nil => have := HL.out; simp at this; omega
        | cons y t => exact ⟨y, t, rfl⟩
      have hvy : v = W8 y := by
        rw [hl] at hv
        exact (Option.some.inj hv).symm
      rw [hvy] at hc
      have kn : (0 : Int) < n' := by omega
      have kc : (0 : Int) < c' := by omega
      have HLT := Lib.hid hl
      clear hl hv hvy
      by_cases hxy : y = x
      · subst hxy
        have kb : (i8 y == i8 y) = true := by simp
        have hd := H'.out.dropIf (k := 1) (by omega)
        rw [← List.map_drop] at hd
        have hdx : dropX y (l'.drop 1) = dropX y l := by
          rw [← HD.out, HLT.out]
          simp [dropX]
        have HDX := Lib.hid hdx
        have HDD := Lib.hid hd
        have kn1 : (n' : Int) - 1 = ((n' - 1 : Nat) : Int) := by omega
        clear hd hdx
        by_cases hc1 : c' = 1
        · subst hc1
          obtain rfl : n' = 1 := by omega
          rw [if_pos rfl] at HDD
          go_wp2
          go_roundw
          case rel => exact ⟨by first | rfl | trivial, _, _, _, l'.drop 1, rfl, HDD, Lib.hid (fun e => by cases e), HDX⟩
          case measure => first | (simp [lenV]; done) | (simp [lenV]; omega)
        · rw [if_neg hc1] at HDD
          go_wp2
          go_roundw
          case rel => exact ⟨by first | rfl | trivial, _, _, _, l'.drop 1, rfl, HDD, Lib.hid (fun e => by cases e), HDX⟩
          case measure => first | (simp [lenV]; done) | (simp [lenV]; omega)
      · have kb : (i8 y == i8 x) = false := by
          rw [beq_eq_false_iff_ne]
          intro e
          apply hxy
          unfold i8 at e
          exact BitVec.eq_of_toNat_eq (by omega)
        have hne : ¬ i8 y = i8 x := by simpa using kb
        have hp : Pc w B (.slice (some ⟨b, o, none⟩) n' c') (dropX x l) := by
          have e : dropX x l = l' := by
            rw [← HD.out, HLT.out]
            simp [dropX, List.dropWhile_cons, hxy]
          rw [e]
          exact Pc.of_sl H'.out HZ'.out
        have HP := Lib.hid hp
        clear hp
        go_wp2
        go_ret
        exact ⟨_, _, _, rfl, rfl, HP.out⟩
end Go.Proofs.YtnpaidieijlkkabDoor

/- pad: EncOAEP. -/
set_option linter.unusedVariables false
set_option linter.unusedSimpArgs false
namespace Go.Proofs.YtnpaidieijlkkabDoor
open Go.RowKit Go.Shelf

theorem okB_kind {k : Int} {n : Nat} (h : okB k n = true) : KindOk k ∧ n = szN k := by
  have h1 := of_decide_eq_true h
  by_cases hk : KindOk k
  · refine ⟨hk, ?_⟩
    have := szN_eq hk
    omega
  · have := sizeV_no hk
    omega
theorem okB_of {k : Int} (h : KindOk k) : okB k (szN k) = true := by
  rw [okB, szN_eq h]
  exact decide_eq_true ⟨by have := (szN_le h).1; omega, rfl⟩
theorem pover_any (w : World) (k : Int) : Calls Tryd.prog 28 #[.int .i64 k] w fun e w' => e = .returned (.int .i64 (2 * sizeV k + 2)) ∧ w = w' := by
  have hs := size_any w k
  obtain ⟨z, hz⟩ : ∃ z, sizeV k = z := ⟨_, rfl⟩
  have hzb := sizeV_bd k
  rw [hz] at hs hzb ⊢
  have hz0 := hzb.1
  have hz64 := hzb.2
  have HS := Lib.hid hs
  clear hs hz hzb
  go_enter Tryd.func28, Tryd.ntmps28
  go_wp2_with fail
  refine HS.out.mono ?_
  rintro e w' ⟨rfl, rfl⟩
  go_wp2
  go_ret
  exact ⟨rfl, rfl⟩
def blockL (k : Int) (Z : Nat) (label m : List (BitVec 8)) : List (BitVec 8) := sumK k label ++ (List.replicate Z 0 ++ ([1] ++ m))
def maskK (k : Int) (b sd : List (BitVec 8)) : List (BitVec 8) := xorL b (mgfL k sd b.length)
theorem maskK_length {k : Int} (hk : KindOk k) (b sd : List (BitVec 8)) : (maskK k b sd).length = b.length := by rw [maskK, xorL_length, mgfL_length hk, Nat.min_self]
def oaepL (k : Int) (Z : Nat) (label seed m : List (BitVec 8)) : List (BitVec 8) := 0 :: (maskK k seed (maskK k (blockL k Z label m) seed) ++ maskK k (blockL k Z label m) seed)
theorem sumK_len {k : Int} (hk : KindOk k) (l : List (BitVec 8)) : (sumK k l).length = szN k := by
  rw [sumK, if_pos (show 1 ≤ k ∧ k ≤ 5 from hk), sumL_length]
theorem blockL_length {k : Int} (hk : KindOk k) (Z : Nat) (label m : List (BitVec 8)) : (blockL k Z label m).length = szN k + Z + 1 + m.length := by
  rw [blockL, List.length_append, sumK_len hk]
  simp
  omega
set_option maxRecDepth 100000 in
theorem pencoaep_no1 (w : World) (k n : Int) (v : Value) (A2 : Option Addr) (n2 c2 : Nat) (v4 : Value) (h : 65536 < n ∨ okB k n2 = false) :
    Calls Tryd.prog 11 #[.int .i64 k, .int .i64 n, v, .slice A2 n2 c2, v4] w fun e w' => e = .returned (.tuple #[.slice none 0 0, .int .i64 7]) ∧ w = w' := by
  have ho := pover_any w k
  obtain ⟨z, hz⟩ : ∃ z, 2 * sizeV k + 2 = z := ⟨_, rfl⟩
  rw [hz] at ho
  have HO := Lib.hid ho
  have hi := pishash_any w k A2 n2 c2
  clear ho hz
  by_cases h1 : 65536 < n
  · clear h hi
    go_enter Tryd.func11, Tryd.ntmps11
    go_wp2_with fail
    refine HO.out.mono ?_
    rintro e w' ⟨rfl, rfl⟩
    go_wp2
    go_ret2
    exact ⟨rfl, rfl⟩
  · have h2 : okB k n2 = false := by rcases h with h | h; exact absurd h h1; exact h
    rw [h2] at hi
    have HI := Lib.hid hi
    clear h hi h2
    go_enter Tryd.func11, Tryd.ntmps11
    go_wp2_with fail
    refine HO.out.mono ?_
    rintro e w' ⟨rfl, rfl⟩
    go_wp2_with fail
    refine HI.out.mono ?_
    rintro e w' ⟨rfl, rfl⟩
    go_wp2
    go_ret2
    exact ⟨rfl, rfl⟩
set_option maxRecDepth 100000 in
theorem pencoaep_no2 (w : World) (k n : Int) (v : Value) (A2 : Option Addr) (n2 c2 : Nat) (A3 : Option Addr) (n3 c3 : Nat) (h0 : -9223372036854775808 ≤ n) (h : n ≤ 65536) (hok : okB k n2 = true) (hsm : n < 2 * sizeV k + 2 ∨ n - (2 * sizeV k + 2) < n3) :
    Calls Tryd.prog 11 #[.int .i64 k, .int .i64 n, v, .slice A2 n2 c2, .slice A3 n3 c3] w fun e w' => e = .returned (.tuple #[.slice none 0 0, .int .i64 33]) ∧ w = w' := by
  have ho := pover_any w k
  have hzb := sizeV_bd k
  obtain ⟨z, hz⟩ : ∃ z, 2 * sizeV k + 2 = z := ⟨_, rfl⟩
  have hz0 : 2 ≤ z := by omega
  have hz1 : z ≤ 130 := by omega
  rw [hz] at ho hsm
  have hi := pishash_any w k A2 n2 c2
  rw [hok] at hi
  have HO := Lib.hid ho
  have HI := Lib.hid hi
  clear ho hi hz hok hzb
  have h65 : ¬ 65536 < n := by omega
  by_cases h1 : n < z
  · clear hsm
    go_enter Tryd.func11, Tryd.ntmps11
    go_wp2_with fail
    refine HO.out.mono ?_
    rintro e w' ⟨rfl, rfl⟩
    go_wp2_with fail
    refine HI.out.mono ?_
    rintro e w' ⟨rfl, rfl⟩
    go_wp2
    go_ret2
    exact ⟨rfl, rfl⟩
  · have h2 : n - z < n3 := by omega
    have h3 : z ≤ n := by omega
    clear hsm h1
    go_enter Tryd.func11, Tryd.ntmps11
    go_wp2_with fail
    refine HO.out.mono ?_
    rintro e w' ⟨rfl, rfl⟩
    go_wp2_with fail
    refine HI.out.mono ?_
    rintro e w' ⟨rfl, rfl⟩
    go_wp2
    go_ret2
    exact ⟨rfl, rfl⟩
set_option maxRecDepth 100000 in
set_option maxHeartbeats 4000000 in
theorem pencoaep_ok (w : World) (k : Int) (hGS : StartsG w) (hGR : RootsG w) (N : Nat) (hN : N ≤ 65536) (B : Nat) (A1 : Option Addr) (n1 c1 : Nat) (label : List (BitVec 8)) (h1 : SlV w B A1 n1 c1 (label.map W8)) (z1 : A1 = none → c1 = 0)
    (A2 : Option Addr) (n2 c2 : Nat) (seed : List (BitVec 8)) (h2 : SlV w B A2 n2 c2 (seed.map W8)) (z2 : A2 = none → c2 = 0) (hok : okB k n2 = true) (A3 : Option Addr) (n3 c3 : Nat) (m : List (BitVec 8)) (h3 : SlV w B A3 n3 c3 (m.map W8)) (z3 : A3 = none → c3 = 0)
    (hB : B ≤ w.heap.size) (hn1 : n1 ≤ 1000000) (Z : Nat) (hfit : n3 + (2 * szN k + 2) + Z = N) :
    Calls Tryd.prog 11 #[.int .i64 k, .int .i64 (N : Int), .slice A1 n1 c1, .slice A2 n2 c2, .slice A3 n3 c3] w fun e w' => ∃ v, e = .returned (.tuple #[v, .int .i64 0]) ∧ FreshV w' w.heap.size v (oaepL k Z label seed m) ∧ Below w.heap.size w w' := by
  obtain ⟨hk, hn2⟩ := okB_kind hok
  have ho := pover_any w k
  have hi := pishash_any w k A2 n2 c2
  rw [hok] at hi
  have hle := szN_le hk
  rw [szN_eq hk] at ho
  obtain ⟨h, hh⟩ : ∃ h, szN k = h := ⟨_, rfl⟩
  rw [hh] at ho hn2 hfit hle
  obtain ⟨z, hz⟩ : ∃ z, 2 * h + 2 = z := ⟨_, rfl⟩
  have hzI : 2 * (h : Int) + 2 = (z : Int) := by omega
  rw [hzI] at ho
  rw [hz] at hfit
  have k1 : (N : Int) ≤ 65536 := by omega
  have k2 : ¬ (65536 : Int) < N := by omega
  have k3 : (z : Int) ≤ N := by omega
  have k4 : ¬ (N : Int) < z := by omega
  have k5 : ¬ (N : Int) - z < n3 := by omega
  have k6 : (N : Int) - z - n3 = (Z : Int) := by omega
  have k7 : (n3 : Int) ≤ N - z := by omega
  have k8 : (Z : Int) ≤ 65536 := by omega
  have hl1 : label.length = n1 := by simpa using h1.len.symm
  have hl2 : seed.length = n2 := by simpa using h2.len.symm
  have hl3 : m.length = n3 := by simpa using h3.len.symm
  have P1 := Lib.hid ((Pc.of_sl h1 z1).more hB)
  have P2 := Lib.hid ((Pc.of_sl h2 z2).more hB)
  have P3 := Lib.hid ((Pc.of_sl h3 z3).more hB)
  have HO := Lib.hid ho
  have HI := Lib.hid hi
  have HG := Lib.hid (⟨hGS, hGR⟩ : StartsG w ∧ RootsG w)
  have HN := Lib.hid (⟨hk, hh, hz, hle.1, hle.2.2, hn2, hfit, hN⟩ : KindOk k ∧ szN k = h ∧ 2 * h + 2 = z ∧ 20 ≤ h ∧ h ≤ 64 ∧ n2 = h ∧ n3 + z + Z = N ∧ N ≤ 65536)
  have HL := Lib.hid (⟨hl1, hl2, hl3, hn1⟩ : label.length = n1 ∧ seed.length = n2 ∧ m.length = n3 ∧ n1 ≤ 1000000)
  have S2 := Lib.hid h2
  have Z2 := Lib.hid z2
  have HBB := Lib.hid hB
  clear hk hn2 ho hi hok hle hz hzI hh hfit hN hl1 hl2 hl3 h1 z1 h2 z2 h3 z3 hGS hGR hB hn1
  go_enter Tryd.func11, Tryd.ntmps11
  go_wp2_with fail
  refine HO.out.mono ?_
  rintro e w' ⟨rfl, rfl⟩
  go_wp2_with fail
  refine HI.out.mono ?_
  rintro e w' ⟨rfl, rfl⟩
  clear HO HI
  go_wp2_with (at_make; refine wlv_make Tryd.elem8 rfl _ rfl _ Z rfl rfl (by omega) ?_; intro w1 hr1 hb1 hz1; clear hz1)
  have hzs : FreshV w1 w.heap.size (.slice (some ⟨w.heap.size, 0, none⟩) Z Z) (List.replicate Z 0) := FreshV.row_ (by rw [List.map_replicate]; exact hr1) (Nat.le_refl _) (by simp) (by omega)
  have hof := ofA w1 k (HG.out.1.later hb1) (HG.out.2.later hb1) [.slice A1 n1 c1] #[.slice A1 n1 c1] rfl [label] ⟨P1.out.up hb1, trivial⟩ 1 rfl (by decide) (by have := HL.out; simp; omega)
  rw [show ([label] : List (List (BitVec 8))).flatten = label by simp] at hof
  have HOF := Lib.hid hof
  have HB1 := Lib.hid hb1
  have HZS := Lib.hid hzs
  clear hof hr1 hb1 hzs
  go_wp2_with fail
  refine HOF.out.mono ?_
  rintro e w2 ⟨v2, rfl, hf2, hb2⟩
  obtain ⟨Aa, na, ca, rfl⟩ := hf2.form
  obtain ⟨hf3, hb3⟩ := freshA w2 [1] #[.int .u8 1] rfl 1 rfl (by decide)
  obtain ⟨W3, e3⟩ : ∃ W, w2.alloc (.cells #[.int .u8 1] 5) = W := ⟨_, rfl⟩
  rw [e3] at hf3 hb3
  have hb03 : Below w.heap.size w W3 := (HB1.out.trans (hb2.mono HB1.out.size)).trans (hb3.mono (Nat.le_trans HB1.out.size hb2.size))
  have hcc := concatA W3 [.slice Aa na ca, .slice (some ⟨w.heap.size, 0, none⟩) Z Z, .slice (some ⟨w2.heap.size, 0, none⟩) 1 1, .slice A3 n3 c3] #[.slice Aa na ca, .slice (some ⟨w.heap.size, 0, none⟩) Z Z, .slice (some ⟨w2.heap.size, 0, none⟩) 1 1, .slice A3 n3 c3] rfl [sumK k label, List.replicate Z 0, [1], m] ⟨hf2.pc.up hb3, (HZS.out.up (hb2.trans (hb3.mono hb2.size))).pc, hf3.pc, P3.out.up hb03, trivial⟩ 4 rfl (by decide) (by have := HL.out; have := HN.out; have := sumK_le k label; simp; omega)
  have hblk : [sumK k label, List.replicate Z 0, [1], m].flatten = blockL k Z label m := by simp [blockL]
  rw [hblk] at hcc
  have hbl : (blockL k Z label m).length = h + Z + 1 + n3 := by rw [blockL_length HN.out.1, HN.out.2.1, HL.out.2.2.1]
  obtain ⟨blk, hbk⟩ : ∃ l, blockL k Z label m = l := ⟨_, rfl⟩
  rw [hbk] at hcc hbl
  have HCC := Lib.hid hcc
  have HBK := Lib.hid (⟨hbk, hbl⟩ : blockL k Z label m = blk ∧ blk.length = h + Z + 1 + n3)
  have HB3 := Lib.hid hb03
  clear hcc hf2 hf3 hb2 hb3 hb03 hblk hbk hbl HOF HZS
  go_wp2_with fail
  refine HCC.out.mono ?_
  rintro e w4 ⟨v4, rfl, hf4, hb4⟩
  obtain ⟨Ab, nb, cb, rfl⟩ := hf4.form
  have hb04 : Below w.heap.size w w4 := HB3.out.trans (hb4.mono HB3.out.size)
  have hnb : nb = h + Z + 1 + n3 := by rw [hf4.len_, HBK.out.2]
  obtain ⟨Ab', cb', eb, hsb, hzb⟩ := hf4.sl
  injection eb with eb1 eb2 eb3
  subst eb1 eb3
  rw [← hf4.len_] at hsb
  clear eb2
  have hma := pmasked_any w4 k HN.out.1 (HG.out.1.later hb04) (HG.out.2.later hb04) w4.heap.size Ab nb cb blk hsb A2 n2 c2 seed ((S2.out.below (hb04.mono HBB.out)).more (by have := HBB.out; have := hb04.size; omega)) Z2.out (Nat.le_refl _) (by omega) (by have := HN.out; omega) (by have := HN.out; omega)
  have HMA := Lib.hid hma
  have HNB := Lib.hid hnb
  have HB4 := Lib.hid hb04
  clear hma hsb hf4 hb4 hb04 hnb hzb HCC HB3
  go_wp2_with fail
  refine HMA.out.mono ?_
  rintro e w5 ⟨v5, rfl, hown5, hb5⟩
  have hhid : xorL blk (mgfL k seed nb) = maskK k blk seed := by rw [maskK, HBK.out.2, HNB.out]
  rw [hhid] at hown5
  obtain ⟨hid, hhd⟩ : ∃ l, maskK k blk seed = l := ⟨_, rfl⟩
  rw [hhd] at hown5
  obtain ⟨Ac, cc, rfl, hsc, hzc⟩ := own_all hown5
  have hf5 : FreshV w5 w4.heap.size (.slice Ac nb cc) hid := FreshV.of_own hown5
  have hb05 : Below w.heap.size w w5 := HB4.out.trans (hb5.mono HB4.out.size)
  obtain ⟨hf6, hb6⟩ := freshA w5 [0] #[.int .u8 0] rfl 1 rfl (by decide)
  obtain ⟨W6, e6⟩ : ∃ W, w5.alloc (.cells #[.int .u8 0] 5) = W := ⟨_, rfl⟩
  rw [e6] at hf6 hb6
  have hb06 : Below w.heap.size w W6 := hb05.trans (hb6.mono hb05.size)
  have hmb := pmasked_any W6 k HN.out.1 (HG.out.1.later hb06) (HG.out.2.later hb06) W6.heap.size A2 n2 c2 seed ((S2.out.below (hb06.mono HBB.out)).more (by have := HBB.out; have := hb06.size; omega)) Ac nb cc hid ((hsc.below hb6).more hb6.size) hzc (Nat.le_refl _) (by have := HN.out; omega) (by have := HN.out; omega) (by have := HN.out; have := HNB.out; omega)
  have HMB := Lib.hid hmb
  have HHD := Lib.hid hhd
  have HB6 := Lib.hid hb06
  have HF5 := Lib.hid (hf5.up hb6)
  have HF6 := Lib.hid hf6
  clear hmb hhid hhd hown5 hsc hzc hf5 hb5 hb05 hb6 hb06 hf6 HMA HB4
  go_wp2_with fail
  refine HMB.out.mono ?_
  rintro e w7 ⟨v7, rfl, hown7, hb7⟩
  have hf7 : FreshV w7 W6.heap.size v7 (maskK k seed hid) := by
    rw [maskK, HL.out.2.1]
    exact FreshV.of_own hown7
  obtain ⟨Ad, nd, cd, rfl⟩ := hf7.form
  have hcd := concatA w7 [.slice (some ⟨w5.heap.size, 0, none⟩) 1 1, .slice Ad nd cd, .slice Ac nb cc] #[.slice (some ⟨w5.heap.size, 0, none⟩) 1 1, .slice Ad nd cd, .slice Ac nb cc] rfl [[0], maskK k seed hid, hid] ⟨(HF6.out.up hb7).pc, hf7.pc, (HF5.out.up hb7).pc, trivial⟩ 3 rfl (by decide) (by have h5 := HF5.out.len_; have h7 := hf7.len_; have := HNB.out; have := HN.out; have h8 := maskK_length HN.out.1 seed hid; have := HL.out.2.1; simp; omega)
  have hfin : [[0], maskK k seed hid, hid].flatten = oaepL k Z label seed m := by rw [oaepL, HBK.out.1, HHD.out]; simp
  rw [hfin] at hcd
  have HCD := Lib.hid hcd
  have HB7 := Lib.hid (HB6.out.trans (hb7.mono HB6.out.size))
  clear hcd hfin hown7 hf7 hb7 HMB HB6 HF5 HF6
  go_wp2_with fail
  refine HCD.out.mono ?_
  rintro e w8 ⟨v8, rfl, hf8, hb8⟩
  have HF8 := Lib.hid (hf8.mono_ HB7.out.size)
  have HB8 := Lib.hid (HB7.out.trans (hb8.mono HB7.out.size))
  clear hf8 hb8
  go_wp2
  go_ret2
  exact ⟨_, rfl, HF8.out, HB8.out⟩
end Go.Proofs.YtnpaidieijlkkabDoor

/- pad: DecOAEP. -/
set_option linter.unusedVariables false
set_option linter.unusedSimpArgs false
namespace Go.Proofs.YtnpaidieijlkkabDoor
open Go.RowKit Go.Shelf

set_option maxRecDepth 100000 in
theorem trim0_any (w : World) (B : Nat) (A : Option Addr) (n c : Nat) (l : List (BitVec 8)) (h : SlV w B A n c (l.map W8)) (hz : A = none → c = 0) :
    Calls Tryd.prog 31 #[.slice A n c, .string ⟨#[0]⟩] w fun e w' => ∃ A' n' c', e = .returned (.slice A' n' c') ∧ w = w' ∧ Pc w B (.slice A' n' c') (dropX 0 l) := by
  by_cases hn : n = 0
  · subst hn
    obtain rfl : l = [] := List.eq_nil_of_length_eq_zero (by simpa using h.len.symm)
    clear h hz
    go_enter Tryd.func31, Tryd.ntmps31
    go_wp2
    go_ret
    exact ⟨_, _, _, rfl, rfl, Pc.of_sl (l := []) (SlV.nil _ _ _ (by decide)) (fun _ => rfl)⟩
  · have ht : Calls Tryd.prog 43 #[.slice A n c, .int .u8 0] w fun e w' => ∃ A' n' c', e = .returned (.slice A' n' c') ∧ w = w' ∧ Pc w B (.slice A' n' c') (dropX 0 l) := trimByte_any w B A n c l h hz 0
    have HT := Lib.hid ht
    have kn : ((n : Int) == 0) = false := beq_eq_false_iff_ne.2 (by omega)
    clear ht h hz
    go_enter Tryd.func31, Tryd.ntmps31
    go_wp2_with fail
    refine HT.out.mono ?_
    rintro e w' ⟨A', n', c', rfl, rfl, hp⟩
    have HP := Lib.hid hp
    clear hp
    go_wp2
    go_ret
    exact ⟨_, _, _, rfl, rfl, HP.out⟩
def decBlk (k : Int) (em : List (BitVec 8)) : List (BitVec 8) := maskK k (em.drop (1 + szN k)) (maskK k ((em.drop 1).take (szN k)) (em.drop (1 + szN k)))
def decRest (k : Int) (label em : List (BitVec 8)) : List (BitVec 8) := if (sumK k label).isPrefixOf (decBlk k em) then (decBlk k em).drop (sumK k label).length else decBlk k em
def decOk (k : Int) (label em : List (BitVec 8)) : Bool := (sumK k label).isPrefixOf (decBlk k em) && ([1] : List (BitVec 8)).isPrefixOf (dropX 0 (decRest k label em))
def decMsg (k : Int) (label em : List (BitVec 8)) : List (BitVec 8) := (dropX 0 (decRest k label em)).drop 1
set_option maxRecDepth 100000 in
theorem pdecoaep_no1 (w : World) (k : Int) (v1 v2 : Value) (hk : ¬ KindOk k) :
    Calls Tryd.prog 12 #[.int .i64 k, v1, v2] w fun e w' => e = .returned (.tuple #[.slice none 0 0, .int .i64 7]) ∧ w = w' := by
  have hs := size_any w k
  rw [sizeV_no hk] at hs
  have HS := Lib.hid hs
  clear hs hk
  go_enter Tryd.func12, Tryd.ntmps12
  go_wp2_with fail
  refine HS.out.mono ?_
  rintro e w' ⟨rfl, rfl⟩
  go_wp2
  go_ret2
  exact ⟨rfl, rfl⟩
set_option maxRecDepth 100000 in
set_option maxHeartbeats 1000000 in
theorem pdecoaep_no2 (w : World) (k : Int) (v1 : Value) (B : Nat) (A : Option Addr) (n c : Nat) (em : List (BitVec 8)) (hs : SlV w B A n c (em.map W8)) (hk : KindOk k) (h : n < 2 * szN k + 2 ∨ 65536 < n ∨ em.head? ≠ some 0) :
    Calls Tryd.prog 12 #[.int .i64 k, v1, .slice A n c] w fun e w' => e = .returned (.tuple #[.slice none 0 0, .int .i64 64]) ∧ w = w' := by
  have hsz := size_any w k
  have ho := pover_any w k
  have hle := szN_le hk
  have hel : em.length = n := by simpa using hs.len.symm
  rw [szN_eq hk] at hsz ho
  obtain ⟨z, hz⟩ : ∃ h, szN k = h := ⟨_, rfl⟩
  rw [hz] at hsz ho hle h
  obtain ⟨y, hy⟩ : ∃ y, 2 * z + 2 = y := ⟨_, rfl⟩
  have hyI : 2 * (z : Int) + 2 = (y : Int) := by omega
  rw [hyI] at ho
  rw [hy] at h
  have HSZ := Lib.hid hsz
  have HO := Lib.hid ho
  have hz0 : ((z : Int) == 0) = false := beq_eq_false_iff_ne.2 (by omega)
  have hz1 : ¬ (z : Int) = 0 := by omega
  have hy42 : 42 ≤ y := by omega
  clear hsz ho hle hz hy hyI hk
  by_cases h1 : n < y
  · have k1 : (n : Int) < y := by omega
    clear h hs
    go_enter Tryd.func12, Tryd.ntmps12
    go_wp2_with fail
    refine HSZ.out.mono ?_
    rintro e w' ⟨rfl, rfl⟩
    go_wp2_with fail
    refine HO.out.mono ?_
    rintro e w' ⟨rfl, rfl⟩
    go_wp2
    go_ret2
    exact ⟨rfl, rfl⟩
  · have k1 : ¬ (n : Int) < y := by omega
    by_cases h2 : 65536 < n
    · have k2 : (65536 : Int) < n := by omega
      clear h hs
      go_enter Tryd.func12, Tryd.ntmps12
      go_wp2_with fail
      refine HSZ.out.mono ?_
      rintro e w' ⟨rfl, rfl⟩
      go_wp2_with fail
      refine HO.out.mono ?_
      rintro e w' ⟨rfl, rfl⟩
      go_wp2
      go_ret2
      exact ⟨rfl, rfl⟩
    · have k2 : ¬ (65536 : Int) < n := by omega
      have h3 : em.head? ≠ some 0 := by rcases h with h | h | h; exact absurd h h1; exact absurd h h2; exact h
      obtain ⟨b, o, v, rfl, _, hv, hc⟩ := hs.at_ (k := 0) (by omega)
      rw [Nat.add_zero] at hc
      obtain ⟨x, t, hx⟩ : ∃ x t, em = x :: t := by
        cases em with
        | nil => simp at hel; omega
        | cons x t => exact ⟨x, t, rfl⟩
      subst hx
      obtain rfl : v = W8 x := (Option.some.inj hv).symm
      have hx0 : ¬ x = 0 := fun e => h3 (by rw [e]; rfl)
      have kx : ¬ i8 x = 0 := fun e => hx0 (by unfold i8 at e; exact BitVec.eq_of_toNat_eq (by simp; omega))
      have kb : (i8 x != 0) = true := by simpa using kx
      have kc : (0 : Int) < c := by have := hs.cap; omega
      clear h h3 hs hv hel
      go_enter Tryd.func12, Tryd.ntmps12
      go_wp2_with fail
      refine HSZ.out.mono ?_
      rintro e w' ⟨rfl, rfl⟩
      go_wp2_with fail
      refine HO.out.mono ?_
      rintro e w' ⟨rfl, rfl⟩
      go_wp2
      go_ret2
      exact ⟨rfl, rfl⟩
end Go.Proofs.YtnpaidieijlkkabDoor

/- pad: DecOAEP of bytes that have the form. -/
set_option linter.unusedVariables false
set_option linter.unusedSimpArgs false
namespace Go.Proofs.YtnpaidieijlkkabDoor
open Go.RowKit Go.Shelf

theorem Pc.sl {w : World} {B n c : Nat} {A : Option Addr} {l : List (BitVec 8)} (h : Pc w B (.slice A n c) l) : SlV w B A n c (l.map W8) ∧ (A = none → c = 0) := by
  obtain ⟨A', c', e, h1, h2⟩ := h
  injection e with e1 e2 e3
  subst e1 e2 e3
  exact ⟨h1, h2⟩
theorem own_slice {w : World} {base : Nat} {e : TypeId} {v : Value} {n : Nat} {xs : List Value} (h : w.ownsRow base e 1 v n xs) : ∃ A c, v = .slice A n c := by
  obtain ⟨A, c, e, _⟩ := own_all h
  exact ⟨A, c, e⟩
set_option maxRecDepth 100000 in
set_option maxHeartbeats 4000000 in
theorem pdecoaep_run (w : World) (k : Int) (hk : KindOk k) (hGS : StartsG w) (hGR : RootsG w) (B : Nat) (A1 : Option Addr) (n1 c1 : Nat) (label : List (BitVec 8)) (h1 : SlV w B A1 n1 c1 (label.map W8)) (z1 : A1 = none → c1 = 0) (hn1 : n1 ≤ 1000000)
    (A : Option Addr) (n c : Nat) (em : List (BitVec 8)) (hs : SlV w B A n c (em.map W8)) (hB : B ≤ w.heap.size) (hlo : 2 * szN k + 2 ≤ n) (hhi : n ≤ 65536) (h0 : em.head? = some 0) :
    Calls Tryd.prog 12 #[.int .i64 k, .slice A1 n1 c1, .slice A n c] w fun e w' => ∃ v, e = .returned (.tuple #[v, .int .i64 (if decOk k label em then 0 else 64)]) ∧ FreshV w' w.heap.size v (if decOk k label em then decMsg k label em else []) ∧ Below w.heap.size w w' := by
  obtain ⟨DO, hDO⟩ : ∃ b, decOk k label em = b := ⟨_, rfl⟩
  obtain ⟨DM, hDM⟩ : ∃ l, decMsg k label em = l := ⟨_, rfl⟩
  rw [hDO, hDM]
  have HDO := Lib.hid hDO
  have HDM := Lib.hid hDM
  clear hDO hDM
  have hsz := size_any w k
  have ho := pover_any w k
  have hle := szN_le hk
  have hel : em.length = n := by simpa using hs.len.symm
  rw [szN_eq hk] at hsz ho
  obtain ⟨z, hz⟩ : ∃ h, szN k = h := ⟨_, rfl⟩
  rw [hz] at hsz ho hle hlo
  obtain ⟨y, hy⟩ : ∃ y, 2 * z + 2 = y := ⟨_, rfl⟩
  have hyI : 2 * (z : Int) + 2 = (y : Int) := by omega
  rw [hyI] at ho
  rw [hy] at hlo
  obtain ⟨p, hp⟩ : ∃ p, 1 + z = p := ⟨_, rfl⟩
  have hpI : (1 : Int) + (z : Int) = (p : Int) := by omega
  obtain ⟨b, o, v, rfl, _, hv, hc⟩ := hs.at_ (k := 0) (by omega)
  rw [Nat.add_zero] at hc
  have hcl : w.cell? ⟨b, o, none⟩ = some (.int .u8 0) := by
    cases em with
    | nil => simp at h0
    | cons x t =>
      obtain rfl : x = 0 := by simpa using h0
      obtain rfl : v = W8 0 := (Option.some.inj hv).symm
      exact hc
  have hcap := hs.cap
  have hz0 : ((z : Int) == 0) = false := beq_eq_false_iff_ne.2 (by omega)
  have hz1 : ¬ (z : Int) = 0 := by omega
  have k1 : (y : Int) ≤ n := by omega
  have k2 : (n : Int) ≤ 65536 := by omega
  have k3 : (p : Int) ≤ n := by omega
  have k4 : (1 : Int) ≤ p := by omega
  have k5 : ¬ c = p := by omega
  have k6 : ¬ c = 1 := by omega
  have k7 : (n : Int) ≤ c := by omega
  have k8 : (0 : Int) < c := by omega
  have sH := hs.drop (k := p) (by omega)
  rw [← List.map_drop] at sH
  have sS := (hs.drop (k := 1) (by omega)).take (k := p - 1) (by omega)
  rw [← List.map_drop, ← List.map_take] at sS
  obtain ⟨H, hH⟩ : ∃ l, em.drop p = l := ⟨_, rfl⟩
  obtain ⟨S, hS⟩ : ∃ l, (em.drop 1).take (p - 1) = l := ⟨_, rfl⟩
  rw [hH] at sH
  rw [hS] at sS
  have hma := pmasked_any w k hk hGS hGR B (some ⟨b, o + 1, none⟩) (p - 1) (c - 1) S sS (some ⟨b, o + p, none⟩) (n - p) (c - p) H sH (fun e => by cases e) hB (by omega) (by omega) (by omega)
  have hSl : S.length = p - 1 := by simpa using sS.len.symm
  have hHl : H.length = n - p := by simpa using sH.len.symm
  have hmk : xorL S (mgfL k H (p - 1)) = maskK k S H := by rw [maskK, hSl]
  rw [hmk] at hma
  have HMA := Lib.hid hma
  have HSZ := Lib.hid hsz
  have HO := Lib.hid ho
  have HG := Lib.hid (⟨hGS, hGR⟩ : StartsG w ∧ RootsG w)
  have HN := Lib.hid (⟨hk, hz, hy, hp, hle.1, hle.2.2, hB, hn1, by omega, hhi⟩ : KindOk k ∧ szN k = z ∧ 2 * z + 2 = y ∧ 1 + z = p ∧ 20 ≤ z ∧ z ≤ 64 ∧ B ≤ w.heap.size ∧ n1 ≤ 1000000 ∧ 1 ≤ n - p ∧ n ≤ 65536)
  have HHS := Lib.hid (⟨hH, hS, hSl, hHl⟩ : em.drop p = H ∧ (em.drop 1).take (p - 1) = S ∧ S.length = p - 1 ∧ H.length = n - p)
  have P1 := Lib.hid ((Pc.of_sl h1 z1).more hB)
  have SH := Lib.hid sH
  have hl1 : label.length = n1 := by simpa using h1.len.symm
  have HL1 := Lib.hid hl1
  clear hma hsz ho hk hz hy hp hle hB hn1 hlo hhi hH hS sH sS h1 z1 hGS hGR hs hc hv hel h0 hyI hSl hHl hmk hl1
  go_enter Tryd.func12, Tryd.ntmps12
  go_wp2_with fail
  refine HSZ.out.mono ?_
  rintro e w' ⟨rfl, rfl⟩
  go_wp2_with fail
  refine HO.out.mono ?_
  rintro e w' ⟨rfl, rfl⟩
  go_wp2_with fail
  refine HMA.out.mono ?_
  rintro e w1 ⟨v1, rfl, hown1, hb1⟩
  have hf1 : FreshV w1 w.heap.size v1 (maskK k S H) := FreshV.of_own hown1
  obtain ⟨Aa, ca, rfl⟩ := own_slice hown1
  obtain ⟨sA, zA⟩ := hf1.pc.sl
  obtain ⟨SD, hSD⟩ : ∃ l, maskK k S H = l := ⟨_, rfl⟩
  rw [hSD] at sA
  have hmb := pmasked_any w1 k HN.out.1 (HG.out.1.later hb1) (HG.out.2.later hb1) w1.heap.size (some ⟨b, o + p, none⟩) (n - p) (c - p) H ((SH.out.below (hb1.mono HN.out.2.2.2.2.2.2.1)).more (by have := HN.out.2.2.2.2.2.2.1; have := hb1.size; omega)) Aa (p - 1) ca SD sA zA (Nat.le_refl _) HN.out.2.2.2.2.2.2.2.2.1 (by have := HN.out; omega) (by have := HN.out; omega)
  have hmk : xorL H (mgfL k SD (n - p)) = maskK k H SD := by rw [maskK, HHS.out.2.2.2]
  rw [hmk] at hmb
  have HMB := Lib.hid hmb
  have HSD := Lib.hid hSD
  have HB1 := Lib.hid hb1
  clear hmb hmk hSD hf1 hown1 hb1 sA zA HSZ HO HMA
  go_wp2_with fail
  refine HMB.out.mono ?_
  rintro e w2 ⟨v2, rfl, hown2, hb2⟩
  have hf2 : FreshV w2 w1.heap.size v2 (maskK k H SD) := FreshV.of_own hown2
  obtain ⟨Ab, cb, rfl⟩ := own_slice hown2
  have hb02 : Below w.heap.size w w2 := HB1.out.trans (hb2.mono HB1.out.size)
  obtain ⟨K, hK⟩ : ∃ l, maskK k H SD = l := ⟨_, rfl⟩
  rw [hK] at hf2
  have hof := ofA w2 k (HG.out.1.later hb02) (HG.out.2.later hb02) [.slice A1 n1 c1] #[.slice A1 n1 c1] rfl [label] ⟨P1.out.up hb02, trivial⟩ 1 rfl (by decide) (by have := HL1.out; have := HN.out; simp; omega)
  rw [show ([label] : List (List (BitVec 8))).flatten = label by simp] at hof
  have HOF := Lib.hid hof
  have HK := Lib.hid hK
  have HB2 := Lib.hid hb02
  have HF2 := Lib.hid hf2
  clear hof hK hb02 hf2 hown2 hb2 HMB HB1
  go_wp2_with fail
  refine HOF.out.mono ?_
  rintro e w3 ⟨v3, rfl, hf3, hb3⟩
  obtain ⟨Ac, nc, cc, rfl⟩ := hf3.form
  obtain ⟨sK, zK⟩ := (HF2.out.up hb3).pc.sl
  obtain ⟨sD, zD⟩ := hf3.pc.sl
  have hct := cut_any w3 _ Ab (n - p) cb K sK zK _ Ac nc cc (sumK k label) sD (by rw [sumK_len HN.out.1]; have := HN.out; omega)
  obtain ⟨b1, hb1⟩ : ∃ b, (sumK k label).isPrefixOf K = b := ⟨_, rfl⟩
  rw [hb1] at hct
  obtain ⟨R, hR⟩ : ∃ R, (if b1 = true then K.drop (sumK k label).length else K) = R := ⟨_, rfl⟩
  rw [hR] at hct
  have HCT := Lib.hid hct
  have HB3 := Lib.hid (HB2.out.trans (hb3.mono HB2.out.size))
  have HR := Lib.hid (⟨hb1, hR⟩ : (sumK k label).isPrefixOf K = b1 ∧ (if b1 = true then K.drop (sumK k label).length else K) = R)
  clear hct hb1 hR sK zK sD zD hf3 hb3 HOF HB2 HF2
  go_wp2_with fail
  refine HCT.out.mono ?_
  rintro e w' ⟨Ad, nd, cd, rfl, rfl, hpd⟩
  obtain ⟨sR, zR⟩ := hpd.sl
  have htr := trim0_any w3 _ Ad nd cd R sR zR
  have HTR := Lib.hid htr
  clear htr sR zR hpd HCT
  go_wp2_with fail
  refine HTR.out.mono ?_
  rintro e w' ⟨Ae, ne, ce, rfl, rfl, hpe⟩
  obtain ⟨hf4, hb4⟩ := freshA w3 [1] #[.int .u8 1] rfl 1 rfl (by decide)
  obtain ⟨W4, e4⟩ : ∃ W, w3.alloc (.cells #[.int .u8 1] 5) = W := ⟨_, rfl⟩
  rw [e4] at hf4 hb4
  obtain ⟨sT, zT⟩ := (hpe.up hb4).sl
  obtain ⟨sO, zO⟩ := hf4.pc.sl
  have hcu := cut_any W4 _ Ae ne ce (dropX 0 R) sT zT _ _ 1 1 [1] sO (by decide)
  obtain ⟨b2, hb2⟩ : ∃ b, ([1] : List (BitVec 8)).isPrefixOf (dropX 0 R) = b := ⟨_, rfl⟩
  rw [hb2] at hcu
  have HCU := Lib.hid hcu
  have hb04 := HB3.out.trans (hb4.mono HB3.out.size)
  have HB4 := Lib.hid hb04
  have HB2 := Lib.hid hb2
  clear hcu hb04 hb2 hf4 hb4 sT zT sO zO hpe HTR HB3
  go_wp2_with fail
  refine HCU.out.mono ?_
  rintro e w' ⟨Af, nf, cf, rfl, rfl, hpf⟩
  have hblk : decBlk k em = K := by
    rw [decBlk, HN.out.2.1, HN.out.2.2.2.1, HHS.out.1, show z = p - 1 by have := HN.out; omega, HHS.out.2.1, HSD.out, HK.out]
  have hrest : decRest k label em = R := by rw [decRest, hblk, ← HR.out.2, HR.out.1]
  have hok : decOk k label em = (b1 && b2) := by rw [decOk, hblk, hrest, HR.out.1, HB2.out]
  have hmsg : decMsg k label em = (dropX 0 R).drop 1 := by rw [decMsg, hrest]
  rw [HDO.out] at hok
  rw [HDM.out] at hmsg
  clear hblk hrest HDO HDM
  subst hmsg
  cases b1
  · subst hok
    clear hpf
    go_wp2
    go_ret2
    exact ⟨_, rfl, FreshV.nil_ _ _, HB4.out⟩
  · cases b2
    · subst hok
      clear hpf
      go_wp2
      go_ret2
      exact ⟨_, rfl, FreshV.nil_ _ _, HB4.out⟩
    · subst hok
      obtain ⟨sF, zF⟩ := hpf.sl
      have hcn := cloneK_any W4 _ Af nf cf _ sF zF (Nat.le_refl _) (by
        have h2 : (List.drop 1 (dropX 0 R)).length ≤ R.length := by
          rw [List.length_drop]
          have := (List.dropWhile_suffix (l := R) (· == (0 : BitVec 8))).length_le
          unfold dropX
          omega
        have h3 : R.length ≤ K.length := by rw [← HR.out.2, if_pos rfl, List.length_drop]; omega
        have h4 : K.length = n - p := by rw [← HK.out, maskK_length HN.out.1, HHS.out.2.2.2]
        have h5 := sF.len
        rw [List.length_map] at h5
        have := HN.out
        simp at h5 h2
        omega)
      have HCN := Lib.hid hcn
      clear hcn sF zF hpf
      go_wp2_with fail
      refine HCN.out.mono ?_
      rintro e w5 ⟨v5, rfl, hf5, hb5⟩
      have HF5 := Lib.hid (hf5.mono_ HB4.out.size)
      have HB5 := Lib.hid (HB4.out.trans (hb5.mono HB4.out.size))
      clear hf5 hb5
      go_wp2
      go_ret2
      refine ⟨_, rfl, ?_, HB5.out⟩
      have h := HF5.out
      simpa using h
end Go.Proofs.YtnpaidieijlkkabDoor

/- baileyref8: Info. -/
set_option linter.unusedVariables false
set_option linter.unusedSimpArgs false
namespace Go.Proofs.YtnpaidieijlkkabDoor
open Go.RowKit Go.Shelf

theorem own_pc {w : World} {base n : Nat} {v : Value} {l : List (BitVec 8)} (h : w.ownsRow base 5 1 v n (l.map W8)) : ∃ A c, v = .slice A n c ∧ SlV w w.heap.size A n c (l.map W8) ∧ (A = none → c = 0) := own_all h
theorem new2 (w : World) (G : Nat) (hG : G ≤ w.heap.size) (a b : BitVec 8) (arr : Array Value) (ha : #[W8 a, W8 b] = arr) : ∃ W, w.alloc (.cells arr 5) = W ∧ W.ownsRow G 5 1 (.slice (some ⟨w.heap.size, 0, none⟩) 2 2) 2 (([a, b] : List (BitVec 8)).map W8) ∧ Below w.heap.size w W := by
  obtain ⟨W, e, r, b', z⟩ := newV w 5 (([a, b] : List (BitVec 8)).map W8) arr ha
  exact ⟨W, e, row_own r hG (by simp), b'⟩
end Go.Proofs.YtnpaidieijlkkabDoor

/- pad: the frame of version 1.5, and Sign1. -/
set_option linter.unusedVariables false
set_option linter.unusedSimpArgs false
namespace Go.Proofs.YtnpaidieijlkkabDoor
open Go.RowKit Go.Shelf

/-- 00, the mark, what fills, 00, the message -/
def frameW (mark : BitVec 8) (fl msg : List (BitVec 8)) : List (BitVec 8) := 0 :: mark :: (fl ++ 0 :: msg)
theorem frameW_length (mark : BitVec 8) (fl msg : List (BitVec 8)) : (frameW mark fl msg).length = fl.length + msg.length + 3 := by simp [frameW]; omega
theorem frame_splice (N m s : Nat) (mark : BitVec 8) (msg : List (BitVec 8)) (hm : msg.length = m) (hs : s + m = N) (h3 : 3 ≤ s) :
    splice ((List.replicate N (Value.int .u8 0)).set 1 (W8 mark)) s (msg.map W8) = (frameW mark (List.replicate (s - 3) 0) msg).map W8 := by
  have h0 : Value.int .u8 0 = W8 0 := rfl
  obtain ⟨t, rfl⟩ : ∃ t, s = t + 3 := ⟨s - 3, by omega⟩
  obtain ⟨r, rfl⟩ : ∃ r, N = r + 2 := ⟨N - 2, by omega⟩
  rw [h0, frameW, List.replicate_succ, List.replicate_succ]
  simp only [List.set_cons_succ, List.set_cons_zero, List.map_cons, List.map_append, List.map_replicate, Nat.add_sub_cancel]
  unfold splice
  simp only [List.take_succ_cons, List.drop_succ_cons, List.length_map, hm, List.cons_append]
  congr 2
  rw [List.take_replicate, Nat.min_eq_left (by omega), List.drop_eq_nil_of_le (by simp; omega), List.append_nil]
  rw [show t + 1 = t + 1 from rfl, List.replicate_succ', List.append_assoc]
  rfl
set_option maxRecDepth 100000 in
theorem pframe_1 (w : World) (n : Int) (v : Value) (A : Option Addr) (m c : Nat) (h : 65536 < n) :
    Calls Tryd.prog 24 #[.int .i64 n, v, .slice A m c] w fun e w' => e = .returned (.tuple #[.slice none 0 0, .slice none 0 0, .int .i64 7]) ∧ w = w' := by
  go_enter Tryd.func24, Tryd.ntmps24
  go_wp2
  refine bodyPost_ret (results_tmp3 rfl _ _ _) rfl ?_
  exact ⟨rfl, rfl⟩
set_option maxRecDepth 100000 in
theorem pframe_2 (w : World) (n : Int) (v : Value) (A : Option Addr) (m c : Nat) (h0 : -9223372036854775808 ≤ n) (h : n ≤ 65536) (h2 : n < 11 ∨ n - 11 < m) :
    Calls Tryd.prog 24 #[.int .i64 n, v, .slice A m c] w fun e w' => e = .returned (.tuple #[.slice none 0 0, .slice none 0 0, .int .i64 33]) ∧ w = w' := by
  by_cases h3 : n < 11
  · clear h2
    go_enter Tryd.func24, Tryd.ntmps24
    go_wp2
    refine bodyPost_ret (results_tmp3 rfl _ _ _) rfl ?_
    exact ⟨rfl, rfl⟩
  · have h4 : n - 11 < m := by omega
    have h5 : 11 ≤ n := by omega
    clear h2 h3
    go_enter Tryd.func24, Tryd.ntmps24
    go_wp2
    refine bodyPost_ret (results_tmp3 rfl _ _ _) rfl ?_
    exact ⟨rfl, rfl⟩
set_option maxRecDepth 100000 in
set_option maxHeartbeats 8000000 in
theorem pframe_ok (w : World) (N : Nat) (hN2 : N ≤ 65536) (mark : BitVec 8) (B : Nat) (A : Option Addr) (m c : Nat) (msg : List (BitVec 8)) (hs : SlV w B A m c (msg.map W8)) (hB : B ≤ w.heap.size) (hm : m + 11 ≤ N) :
    Calls Tryd.prog 24 #[.int .i64 (N : Int), W8 mark, .slice A m c] w fun e w' => e = .returned (.tuple #[.slice (some ⟨w.heap.size, 0, none⟩) N N, .slice (some ⟨w.heap.size, 2, none⟩) (N - m - 3) (N - 2), .int .i64 0]) ∧ RowV 5 w' w.heap.size ((frameW mark (List.replicate (N - m - 3) 0) msg).map W8) ∧ Below w.heap.size w w' := by
  have hl : msg.length = m := by simpa using hs.len.symm
  obtain ⟨i0, hi, hz0, hz1, hz2⟩ := info_parts Tryd.elem8.info
  have hsz : (Tryd.prog.info? 5).map (·.size) = some 1 := by rw [hi]; simp [hz1]
  obtain ⟨g, hg⟩ : ∃ g, w.heap.size = g := ⟨_, rfl⟩
  obtain ⟨s, hs0⟩ : ∃ s, N - m = s := ⟨_, rfl⟩
  have hsI : (N : Int) - (m : Int) = (s : Int) := by omega
  have hs1 : (s : Int) - 1 = ((s - 1 : Nat) : Int) := by omega
  have i1 : (N : Int) ≤ 65536 := by omega
  have i2 : (11 : Int) ≤ N := by omega
  have i3 : ¬ (N : Int) - 11 < m := by omega
  have i4 : (m : Int) ≤ (N : Int) - 11 := by omega
  have i5 : (11 : Int) ≤ s := by omega
  have i6 : (s : Int) ≤ N := by omega
  have hfs := frame_splice N m s mark msg hl (by omega) (by omega)
  have HG := Lib.hid hg
  have HB := Lib.hid (show B ≤ g by omega)
  have HS := Lib.hid hs
  have HS0 := Lib.hid (⟨hs0, by omega, by omega⟩ : N - m = s ∧ s + m = N ∧ 11 ≤ s)
  have HSZ := Lib.hid hsz
  have HL := Lib.hid hl
  have HFS := Lib.hid hfs
  have HLN := Lib.hid (show (msg.map W8).length = Nat.min m (N - s) by rw [List.length_map, hl]; exact (Nat.min_eq_left (by omega)).symm)
  have HFT := Lib.hid (show s + (msg.map W8).length ≤ ((List.replicate N (Value.int .u8 0)).set 1 (W8 mark)).length by simp; omega)
  clear hi hz0 hz1 hz2 hs hB hl hfs hsz hs0
  have hN2' : ¬ N = 2 := by omega
  by_cases hm0 : m = 0
  · have hNs : N = s := by have := HS0.out; omega
    have HNS := Lib.hid hNs
    subst hNs
    subst hm0
    go_enter Tryd.func24, Tryd.ntmps24
    go_wp2_with (first | (at_make; refine wlv_make Tryd.elem8 rfl _ rfl _ N rfl rfl (by omega) ?_; intro w1 hr1 hb1 hz1; rw [hg] at hr1 hb1; have hr2 := hr1.set 1 (W8 mark); have hb2 := below_setV hb1 (Nat.le_refl g) 1 (W8 mark); have c1 : w1.cell? ⟨g, 1, none⟩ = some (.int .u8 0) := hr1.at_ (by rw [List.getElem?_replicate, if_pos (by omega)]); have f1 := hr1.frozen 1) | ((with_reducible show wpList _ _ _ _ _ _); refine wpList_copy_splice (o := ⟨some 36, _, _, _, _, _⟩) rfl _ _ 22 22 rfl 5 Tryd.underlying22 HSZ.out _ _ 0 0 0 c rfl rfl g N ((List.replicate N (.int .u8 0)).set 1 (W8 mark)) 5 ?h1 (msg.map W8) ?h2 ?h3 ?h4 ?h5 g w ?h6 ?h7 ?_; (case h1 => first | exact hr2 | (unfold RowV at hr2; exact hr2) | (simp only [RowV] at hr2; exact hr2)); (case h2 => exact HLN.out); (case h3 => exact fun h => absurd h (by rw [List.length_map, HL.out]; decide)); (case h4 => exact HFT.out); (case h5 => exact ones8 msg); (case h6 => exact hb2); (case h7 => exact Nat.le_refl _); intro w3 hr3 hb3))
    have HB3 := Lib.hid hb3
    have hrr : RowV 5 w3 g ((frameW mark (List.replicate (N - 3) 0) msg).map W8) := by
      have h := hr3.out
      rw [HFS.out] at h
      exact h
    have HR3 := Lib.hid hrr
    clear hr3 hb3 hrr hr1 hb1 hz1 hr2 hb2 c1 f1
    go_region
    go_wp2
    refine bodyPost_ret (results_tmp3 rfl _ _ _) rfl ?_
    have e3 : N - 0 - 3 = N - 3 := by rw [HS0.out.1]
    rw [e3]
    rw [hg]
    refine ⟨?_, HR3.out, HB3.out.drew⟩
    first | rfl | (simp; done) | (simp; omega)
  · have hNs : ¬ N = s := by have := HS0.out; omega
    go_enter Tryd.func24, Tryd.ntmps24
    go_wp2_with (first | (at_make; refine wlv_make Tryd.elem8 rfl _ rfl _ N rfl rfl (by omega) ?_; intro w1 hr1 hb1 hz1; rw [hg] at hr1 hb1; have hr2 := hr1.set 1 (W8 mark); have hb2 := below_setV hb1 (Nat.le_refl g) 1 (W8 mark); have c1 : w1.cell? ⟨g, 1, none⟩ = some (.int .u8 0) := hr1.at_ (by rw [List.getElem?_replicate, if_pos (by omega)]); have f1 := hr1.frozen 1) | ((with_reducible show wpList _ _ _ _ _ _); refine wpList_copy_splice (o := ⟨some 36, _, _, _, _, _⟩) rfl _ _ 22 22 rfl 5 Tryd.underlying22 HSZ.out _ _ (N - s) (N - s) m c rfl rfl g s ((List.replicate N (.int .u8 0)).set 1 (W8 mark)) 5 ?h1 (msg.map W8) ?h2 ?h3 ?h4 ?h5 g w ?h6 ?h7 ?_; (case h1 => first | exact hr2 | (unfold RowV at hr2; exact hr2) | (simp only [RowV] at hr2; exact hr2)); (case h2 => exact HLN.out); (case h3 => exact fun h => ⟨rfl, (copy_pos (g := g) HS.out (hb2.mono HB.out) h).2⟩); (case h4 => exact HFT.out); (case h5 => exact ones8 msg); (case h6 => exact hb2); (case h7 => exact Nat.le_refl _); intro w3 hr3 hb3))
    have HB3 := Lib.hid hb3
    have hrr : RowV 5 w3 g ((frameW mark (List.replicate (s - 3) 0) msg).map W8) := by
      have h := hr3.out
      rw [HFS.out] at h
      exact h
    have HR3 := Lib.hid hrr
    clear hr3 hb3 hrr hr1 hb1 hz1 hr2 hb2 c1 f1
    go_region
    go_wp2
    refine bodyPost_ret (results_tmp3 rfl _ _ _) rfl ?_
    have e3 : N - m - 3 = s - 3 := by rw [HS0.out.1]
    rw [e3]
    rw [hg]
    refine ⟨?_, HR3.out, HB3.out.drew⟩
    first | rfl | (simp; done) | (simp; omega)
end Go.Proofs.YtnpaidieijlkkabDoor

/- pad: Sign1. -/
set_option linter.unusedVariables false
set_option linter.unusedSimpArgs false
namespace Go.Proofs.YtnpaidieijlkkabDoor
open Go.RowKit Go.Shelf

theorem frameW_set (mark x z : BitVec 8) (pre msg : List (BitVec 8)) (k : Nat) :
    (frameW mark (pre ++ List.replicate (k + 1) z) msg).set (pre.length + 2) x = frameW mark ((pre ++ [x]) ++ List.replicate k z) msg := by
  simp only [frameW, List.set_cons_succ, List.append_assoc]
  congr 2
  rw [List.set_append_right _ _ (Nat.le_refl _), Nat.sub_self, List.replicate_succ]
  rfl
theorem frameW_get (mark z : BitVec 8) (pre msg : List (BitVec 8)) (k : Nat) : (frameW mark (pre ++ List.replicate (k + 1) z) msg)[pre.length + 2]? = some z := by
  simp only [frameW, List.getElem?_cons_succ, List.append_assoc]
  rw [List.getElem?_append_right (Nat.le_refl _), Nat.sub_self, List.replicate_succ]
  rfl
set_option maxRecDepth 100000 in
set_option maxHeartbeats 1000000 in
theorem psign1_no (w : World) (n : Int) (A : Option Addr) (m c : Nat) (r : Int) (hf : Calls Tryd.prog 24 #[.int .i64 n, W8 1, .slice A m c] w fun e w' => e = .returned (.tuple #[.slice none 0 0, .slice none 0 0, .int .i64 r]) ∧ w = w') :
    Calls Tryd.prog 9 #[.int .i64 n, .slice A m c] w fun e w' => e = .returned (.tuple #[.slice none 0 0, .int .i64 r]) ∧ w = w' := by
  have HF := Lib.hid hf
  clear hf
  go_enter Tryd.func9, Tryd.ntmps9
  go_wp2_with fail
  refine HF.out.mono ?_
  rintro e w' ⟨rfl, rfl⟩
  go_wp2
  go_loopw [19] (fun i wr => w = wr ∧ i = .int .i64 0) (fun _ _ => 0)
  case atStart => exact ⟨rfl, rfl⟩
  case round =>
    obtain ⟨rfl, rfl⟩ := hrel
    go_wp2
    go_ret2
    exact ⟨rfl, rfl⟩
set_option maxRecDepth 100000 in
set_option maxHeartbeats 2000000 in
theorem psign1_ok (w : World) (N : Nat) (hN2 : N ≤ 65536) (B : Nat) (A : Option Addr) (m c : Nat) (msg : List (BitVec 8)) (hs : SlV w B A m c (msg.map W8)) (hB : B ≤ w.heap.size) (hm : m + 11 ≤ N) :
    Calls Tryd.prog 9 #[.int .i64 (N : Int), .slice A m c] w fun e w' => ∃ v, e = .returned (.tuple #[v, .int .i64 0]) ∧ FreshV w' w.heap.size v (frameW 1 (List.replicate (N - m - 3) 0xff) msg) ∧ Below w.heap.size w w' := by
  have hf := pframe_ok w N hN2 1 B A m c msg hs hB hm
  have hl : msg.length = m := by simpa using hs.len.symm
  obtain ⟨g, hg⟩ : ∃ g, w.heap.size = g := ⟨_, rfl⟩
  rw [hg] at hf ⊢
  obtain ⟨r, hr⟩ : ∃ r, N - m - 3 = r := ⟨_, rfl⟩
  rw [hr] at hf ⊢
  have hrN : r + m + 3 = N := by omega
  have hfl : (frameW 1 (List.replicate r (0xff : BitVec 8)) msg).length = N := by rw [frameW_length, List.length_replicate, hl, hrN]
  have HF := Lib.hid hf
  have HFL := Lib.hid hfl
  have HRN := Lib.hid (⟨hrN, hm, hN2⟩ : r + m + 3 = N ∧ m + 11 ≤ N ∧ N ≤ 65536)
  have i1 : (r : Int) ≤ 65536 := by omega
  have i2 : (N : Int) ≤ 65536 := by omega
  clear hf hs hg hr hrN hfl hl hB hm hN2
  go_enter Tryd.func9, Tryd.ntmps9
  go_wp2_with fail
  refine HF.out.mono ?_
  rintro e w1 ⟨rfl, hrow, hb⟩
  have HR0 := Lib.hid hrow
  have HB0 := Lib.hid hb
  clear hrow hb
  go_wp2
  go_loopw [19] (fun i wr => ∃ j : Nat, j ≤ r ∧ i = .int .i64 (j : Int) ∧ Hid (RowV 5 wr g ((frameW 1 (List.replicate j 0xff ++ List.replicate (r - j) 0) msg).map W8)) ∧ Hid (Below g w wr)) (fun i _ => r - (intOf i).toNat)
  case atStart => exact ⟨0, by omega, rfl, Lib.hid (by simpa using HR0.out), HB0⟩
  case round =>
    obtain ⟨j, hj, rfl, HR, HB⟩ := hrel
    by_cases hjn : j = r
    · subst hjn
      go_wp2
      go_ret2
      refine ⟨_, rfl, ?_, HB.out⟩
      have h := HR.out
      rw [Nat.sub_self, List.replicate_zero, List.append_nil] at h
      exact FreshV.row_ h (Nat.le_refl _) HFL.out (by have := HRN.out; omega)
    · have hji : (j : Int) < r := by omega
      obtain ⟨q, hq⟩ : ∃ q, r - j = q + 1 := ⟨r - j - 1, by omega⟩
      have hrow := HR.out
      rw [hq] at hrow
      have hcl : wr.cell? ⟨g, 2 + j, none⟩ = some (W8 0) := hrow.at_ (by
        have h := frameW_get 1 0 (List.replicate j 0xff) msg q
        rw [List.length_replicate, Nat.add_comm j 2] at h
        rw [List.getElem?_map, h]; rfl)
      have hfz := hrow.frozen (2 + j)
      have hr2 := hrow.set (2 + j) (W8 0xff)
      have hst := frameW_set 1 0xff 0 (List.replicate j 0xff) msg q
      rw [List.length_replicate, Nat.add_comm j 2, ← List.replicate_succ'] at hst
      rw [← List.map_set, hst, show q = r - (j + 1) by omega] at hr2
      rw [show W8 0xff = .int .u8 255 from rfl] at hr2
      have hB2 := below_setV HB.out (Nat.le_refl g) (2 + j) (.int .u8 255)
      have HR2 := Lib.hid hr2
      have HB2 := Lib.hid hB2
      clear hr2 hB2 hst hq hrow
      go_wp2
      go_roundw
      case rel => exact ⟨j + 1, by omega, by go_num, HR2, HB2⟩
      case measure => simp [intOf]; omega
end Go.Proofs.YtnpaidieijlkkabDoor

/- baileyref8: Sign1; baileylaw8: size. -/
set_option linter.unusedVariables false
set_option linter.unusedSimpArgs false
namespace Go.Proofs.YtnpaidieijlkkabDoor
open Go.RowKit Go.Shelf

def size8 (n : Int) : Int := if 200 < n ∧ n ≤ 65536 then n % 201 else n
theorem size8_bd {n : Int} (h0 : -9223372036854775808 ≤ n) (h1 : n ≤ 9223372036854775807) : -9223372036854775808 ≤ size8 n ∧ size8 n ≤ 9223372036854775807 ∧ (size8 n ≤ 200 ∨ 65536 < size8 n) := by
  unfold size8
  split <;> omega
theorem new1 (w : World) (a : BitVec 8) (arr : Array Value) (ha : #[W8 a] = arr) : ∃ W, w.alloc (.cells arr 5) = W ∧ SlV W W.heap.size (some ⟨w.heap.size, 0, none⟩) 1 1 (([a] : List (BitVec 8)).map W8) ∧ Below w.heap.size w W := by
  obtain ⟨W, e, r, b', z⟩ := newV w 5 (([a] : List (BitVec 8)).map W8) arr ha
  exact ⟨W, e, r.sl (by simp), b'⟩
end Go.Proofs.YtnpaidieijlkkabDoor

/- baileyref8: xor. -/
set_option linter.unusedVariables false
set_option linter.unusedSimpArgs false
namespace Go.Proofs.YtnpaidieijlkkabDoor
open Go.RowKit Go.Shelf

theorem SlV.byte {w : World} {B n c : Nat} {A : Option Addr} {l : List (BitVec 8)} (h : SlV w B A n c (l.map W8)) {j : Nat} {x : BitVec 8} (hx : l[j]? = some x) : ∃ b o, A = some ⟨b, o, none⟩ ∧ b < B ∧ w.cell? ⟨b, o + j, none⟩ = some (W8 x) := by
  have hj : j < n := by have := h.len; rw [List.length_map] at this; have := (List.getElem?_eq_some_iff.1 hx).1; omega
  obtain ⟨b, o, v, e, hb, hv, hc⟩ := h.at_ hj
  rw [List.getElem?_map, hx] at hv
  cases hv
  exact ⟨b, o, e, hb, hc⟩
set_option maxRecDepth 100000 in
set_option maxHeartbeats 4000000 in
theorem rxor_any (w : World) (B : Nat) (hB : B ≤ w.heap.size) (A1 : Option Addr) (n c1 : Nat) (a : List (BitVec 8)) (h1 : SlV w B A1 n c1 (a.map W8)) (A2 : Option Addr) (n2 c2 : Nat) (b : List (BitVec 8)) (h2 : SlV w B A2 n2 c2 (b.map W8)) (hn : n ≤ n2) (hn2 : n2 ≤ 1000000) :
    Calls Tryd.prog 21 #[.slice A1 n c1, .slice A2 n2 c2] w fun e w' => e = .returned (.slice (some ⟨w.heap.size, 0, none⟩) n n) ∧ RowV 5 w' w.heap.size ((xorL a b).map W8) ∧ Below w.heap.size w w' := by
  have hal : a.length = n := by simpa using h1.len.symm
  have hbl : b.length = n2 := by simpa using h2.len.symm
  obtain ⟨M, hM⟩ : ∃ M, xorL a b = M := ⟨_, rfl⟩
  have hMl : M.length = n := by rw [← hM, xorL_length]; omega
  rw [hM]
  obtain ⟨G, hG⟩ : ∃ g, w.heap.size = g := ⟨_, rfl⟩
  have k1 : (n : Int) ≤ 1000000 := by omega
  have k2 : (n : Int) ≤ n2 := by omega
  have k3 : (n2 : Int) ≤ 1000000 := by omega
  have H1 := Lib.hid h1
  have H2 := Lib.hid h2
  have HM := Lib.hid (⟨hM, hMl, hal, hbl⟩ : xorL a b = M ∧ M.length = n ∧ a.length = n ∧ b.length = n2)
  have HB := Lib.hid (show B ≤ G by omega)
  have HGG := Lib.hid hG
  have hmx : Tryd.prog.follows .mixedOrders = true := by kernel_rfl
  clear h1 h2 hM hMl hal hbl hB hn hn2
  go_enter Tryd.func21, Tryd.ntmps21
  go_wp2_with (at_make; refine wlv_make Tryd.elem8 rfl _ rfl _ n rfl rfl (by omega) ?_; intro w1 hr1 hb1 hz1; clear hz1; rw [hG] at hr1 hb1)
  have hr0 : RowV 5 w1 G ((M.map W8).take 0 ++ (List.replicate n (Value.int .u8 0)).drop 0) := by simpa using hr1
  have HR0 := Lib.hid hr0
  have HB1 := Lib.hid hb1
  clear hr1 hb1 hr0
  go_loopw [6] (fun i wr => ∃ j : Nat, j ≤ n ∧ i = .int .i64 (j : Int) ∧ Hid (RowV 5 wr G ((M.map W8).take j ++ (List.replicate n (Value.int .u8 0)).drop j)) ∧ Hid (Below G w wr)) (fun i _ => n - (intOf i).toNat)
  case atStart => exact ⟨0, by omega, rfl, HR0, HB1⟩
  case round =>
    obtain ⟨j, hj, rfl, HR, HBr⟩ := hrel
    by_cases hjn : j = n
    · subst hjn
      go_wp2
      go_ret
      have h := HR.out
      rw [List.take_of_length_le (by rw [List.length_map, HM.out.2.1]; exact Nat.le_refl _), List.drop_eq_nil_of_le (by simp), List.append_nil] at h
      rw [hG]
      exact ⟨rfl, h, HBr.out⟩
    · have hji : (j : Int) < n := by omega
      have hjl : j < n := by omega
      have hjn2 : (j : Int) < n2 := by omega
      obtain ⟨x, hx⟩ : ∃ x, a[j]? = some x := ⟨_, List.getElem?_eq_getElem (by have := HM.out; omega)⟩
      obtain ⟨y, hy⟩ : ∃ y, b[j]? = some y := ⟨_, List.getElem?_eq_getElem (by have := HM.out; omega)⟩
      obtain ⟨b1, o1, e1, _, cx⟩ := (H1.out.below (HBr.out.mono HB.out)).byte hx
      obtain ⟨b2, o2, e2, _, cy⟩ := (H2.out.below (HBr.out.mono HB.out)).byte hy
      subst e1 e2
      have hMj : (M.map W8)[j]? = some (W8 (x ^^^ y)) := by rw [List.getElem?_map, ← HM.out.1, xorL_at hx hy]; rfl
      have hcl : wr.cell? ⟨G, j, none⟩ = some (.int .u8 0) := HR.out.at_ (by rw [mid_get _ _ _ (by rw [List.length_map]; have := HM.out; omega), List.getElem?_replicate, if_pos hjl])
      have hfz := HR.out.frozen j
      have hr2 := HR.out.set j (W8 (x ^^^ y))
      rw [mid_set _ _ _ _ hMj (by simpa using hjl)] at hr2
      have hB2 := below_setV HBr.out (Nat.le_refl G) j (W8 (x ^^^ y))
      have hxo := b8_xor x y
      have HR2 := Lib.hid hr2
      have HB2 := Lib.hid hB2
      clear hr2 hB2 hx hy hMj
      go_wp2
      refine (wpIn_wide (n := 9)).1 (wpIn_region_pure rfl hmx [(16, .slice (some ⟨G, 0, none⟩) n n), (17, .int .i64 (j : Int)), (18, .slice (some ⟨b1, o1, none⟩) n c1), (19, .int .i64 (j : Int)), (20, .pointer (some ⟨b1, o1 + j, none⟩)), (21, W8 x), (22, .slice (some ⟨b2, o2, none⟩) n2 c2), (23, .int .i64 (j : Int)), (24, .pointer (some ⟨b2, o2 + j, none⟩)), (25, W8 y), (26, W8 (x ^^^ y)), (27, .pointer (some ⟨G, j, none⟩))] (by kernel_rfl) (by kernel_rfl) (by kernel_rfl) (by kernel_rfl) (by first | rfl | simp) 12 (wr.setCell ⟨G, j, none⟩ (W8 (x ^^^ y))) rfl (by kernel_rfl) ?ops7 ?last7 ?end7)
      case ops7 =>
        intro i o hi ho
        have hi2 : i = 0 ∨ i = 1 ∨ i = 2 ∨ i = 3 ∨ i = 4 ∨ i = 5 ∨ i = 6 ∨ i = 7 ∨ i = 8 ∨ i = 9 ∨ i = 10 ∨ i = 11 := by omega
        rcases hi2 with rfl | rfl | rfl | rfl | rfl | rfl | rfl | rfl | rfl | rfl | rfl | rfl
        all_goals
          have ho' := ho
          simp only [List.getElem?_toArray, List.getElem?_cons_zero, List.getElem?_cons_succ, Option.some.injEq] at ho'
          subst ho'
          refine ⟨(by intro c h; cases h), fun q => ⟨fun _ _ => trivial, ?_⟩⟩
        all_goals
          first
          | (refine .inl ?_; simp [execOp, evP, valP, Act.eval, List.lookup_cons]; done)
          | (refine .inl ?_; simp [execOp, evP, valP, Act.eval, List.lookup_cons, go_sem, cx, cy, hxo, hji, hjl, hjn2]; done)
          | (refine .inl ?_; simp [execOp, evP, valP, Act.eval, List.lookup_cons, go_sem, cx, cy, hxo, hji, hjl, hjn2]; omega)
          | (refine .inl ?_; simp [execOp, evP, valP, Act.eval, List.lookup_cons, go_sem, cx, cy]; exact hxo)
      case last7 =>
        intro o ho
        have ho' := ho
        simp only [List.getElem?_toArray, List.getElem?_cons_zero, List.getElem?_cons_succ, Option.some.injEq] at ho'
        subst ho'
        refine ⟨(by intro c h; cases h), fun q => ⟨fun _ _ => trivial, .inl ⟨?_, rfl⟩⟩⟩
        simp [execOp, evP, valP, Act.eval, List.lookup_cons, go_sem, hcl, hfz]
        try rfl
      case end7 =>
        intro q
        simp [wrote, valP, Act.put, List.lookup_cons]
        obtain ⟨W7, e7⟩ : ∃ W, (wr.setCell ⟨G, j, none⟩ (W8 (x ^^^ y))).drewN q = W := ⟨_, rfl⟩
        have HR7 : Hid (RowV 5 W7 G ((M.map W8).take (j + 1) ++ (List.replicate n (Value.int .u8 0)).drop (j + 1))) := Lib.hid (by rw [← e7]; exact HR2.out)
        have HB7 : Hid (Below G w W7) := Lib.hid (by rw [← e7]; exact below_drewN HB2.out q)
        rw [e7]
        clear e7 HR2 HB2
        go_wp2
        go_roundw
        case rel => exact ⟨j + 1, by omega, by go_num, HR7, HB7⟩
        case measure => simp [intOf]; omega
end Go.Proofs.YtnpaidieijlkkabDoor
