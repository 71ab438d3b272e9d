/- Strings, constants, rows that came in, bytes in memory of a call's own (what the hash texts have, without hashes). -/
import Derived.Test.YtabhdkjepbkooaaKa
import Derived.Test.YtabhdkjepbkooaaBv
import Derived.Test.YtabhdkjepbkooaaBox
import Derived.Laws.IdiomStrings
import Derived.Laws.BytesString
import Derived.Lib.SlBytesConst
import Derived.OpenShut
set_option linter.unusedVariables false
set_option linter.unusedSimpArgs false
namespace Go.Proofs.Ytabhdkjepbkooaa
open Go.RowKit

/-- the bytes of a constant -/
theorem constSl (w : World) (l : List (BitVec 8)) (hl : l.length ≤ 9223372036854775807) (a b : Nat) : SlV (w.alloc (.cells (l.map W8).toArray 5 (a, b))) (w.heap.size + 1) (some ⟨w.heap.size, 0, none⟩) l.length l.length (l.map W8) :=
  ⟨by rw [List.length_map], Nat.le_refl _, hl, fun _ => ⟨w.heap.size, 0, rfl, by omega, fun k v hv => by
    rw [Nat.zero_add, World.cell?_alloc_mark]
    simpa using hv⟩⟩
theorem newFrozen (w : World) (C : Array Value) (a b : Nat) : ∃ W, w.alloc (.cells C 5 (a, b)) = W ∧ Below w.heap.size w W ∧ W.heap.size = w.heap.size + 1 := ⟨_, rfl, (Below.refl _ w).alloc (Nat.le_refl _) _, by simp⟩
theorem convConst (w : World) (C : Array Value) (n c : Nat) : (convert 22 22 (.slice (some ⟨w.heap.size, 0, none⟩) n c)).run Try.prog (w.alloc (.cells C 5)) = .ok (.slice (some ⟨w.heap.size, 0, none⟩) n c) (w.alloc (.cells C 5 (C.size, C.size + 1))) := Lib.run_convert_bytes_const w 22 5 C n c Try.underlying22 Try.underlying5


def b8u (x : BitVec 8) : UInt8 := UInt8.ofBitVec x
theorem b8u_inj {x y : BitVec 8} (h : b8u x = b8u y) : x = y := by
  have := congrArg UInt8.toBitVec h
  simpa [b8u] using this
/-- the string of these bytes -/
def strB (bs : List (BitVec 8)) : ByteArray := ⟨(bs.map b8u).toArray⟩
def strV (bs : List (BitVec 8)) : Value := .string (strB bs)
theorem strB_toList (bs : List (BitVec 8)) : (strB bs).toList = bs.map b8u := by rw [strB, ByteArray.toList_mk]
theorem map_b8u_inj : ∀ (a b : List (BitVec 8)), (a.map b8u == b.map b8u) = decide (a = b)
  | [], [] => rfl
  | [], _ :: _ => rfl
  | _ :: _, [] => rfl
  | x :: a, y :: b => by
    simp only [List.map_cons, List.cons_beq_cons, map_b8u_inj a b]
    by_cases h : x = y
    · subst h; simp
    · have : (b8u x == b8u y) = false := by
        rw [beq_eq_false_iff_ne]
        exact fun e => h (b8u_inj e)
      simp [this, h]
theorem eql_str {P : Program} (w : World) (t : TypeId) (a b : List (BitVec 8)) : (binOp .eql t (strV a) (strV b)).run P w = .ok (.bool (decide (a = b))) w := by
  unfold strV
  rw [binOp_string_eql, strB_toList, strB_toList, map_b8u_inj]
  simp [Sem.run_pure]
theorem neq_str {P : Program} (w : World) (t : TypeId) (a b : List (BitVec 8)) : (binOp .neq t (strV a) (strV b)).run P w = .ok (.bool (!decide (a = b))) w := by
  unfold strV
  rw [binOp_string_neq, strB_toList, strB_toList, map_b8u_inj]
  simp [Sem.run_pure]
theorem eqGuard_str {P : Program} (w : World) (op : BinOp) (t : TypeId) (x y : Operand) (a b : List (BitVec 8)) : (eqGuard op t x y (strV a) (strV b)).run P w = .ok () w := by
  unfold strV
  cases op <;> simp [eqGuard, go_sem]
theorem eqGuard_strc {P : Program} (w : World) (op : BinOp) (t : TypeId) (x y : Operand) (a : List (BitVec 8)) (s : ByteArray) : (eqGuard op t x y (strV a) (.string s)).run P w = .ok () w := by
  unfold strV
  cases op <;> simp [eqGuard, go_sem]
/-- 'string(s)' -/
theorem conv_str {w : World} {B n c : Nat} {A : Option Addr} {bs : List (BitVec 8)} (h : SlV w B A n c (bs.map W8)) : (convert 22 9 (.slice A n c)).run Try.prog w = .ok (strV bs) w := by
  have hl : n = bs.length := by simpa using h.len
  cases A with
  | none =>
    have : bs = [] := by
      apply Classical.byContradiction
      intro hn
      obtain ⟨b, off, e, _⟩ := h.2.2.2 (by simpa using hn)
      cases e
    subst this
    subst hl
    rw [run_convert_bytes_string w _ _ 5 none _ c Try.underlying22 Try.underlying5 Try.underlying9]
    rfl
  | some ad =>
    have hb := run_convert_bytes_back (P := Try.prog) w 22 9 5 ad c (bs.map b8u) Try.underlying22 Try.underlying5 Try.underlying9 (fun j hj => by
      rw [List.length_map] at hj
      obtain ⟨b, off, e, _, hc⟩ := h.2.2.2 (by intro e; rw [List.map_eq_nil_iff] at e; subst e; simp at hj)
      injection e with e
      subst e
      rw [Addr.add_lit, hc j (W8 bs[j]) (by rw [List.getElem?_map, List.getElem?_eq_getElem hj]; rfl)]
      simp [W8, i8, b8u])
    rw [List.length_map, ← hl] at hb
    exact hb
/-- an operation that the region's walk is not to try ahead of its turn -/
def shutOp (o : Oper) : Oper := o
theorem shut_conv (d : Option Tmp) (s t : TypeId) (x : Operand) (e : _) (f : _) (g : _) (h : _) : (⟨d, .convert s t x, e, f, g, h⟩ : Oper) = shutOp ⟨d, .convert s t x, e, f, g, h⟩ := rfl


theorem short_any (w : World) (B : Nat) (A : Option Addr) (n c : Nat) (bs : List (BitVec 8)) (hs : SlV w B A n c (bs.map W8)) (m : Nat) (hm : m ≤ 1000000) :
    Calls Try.prog 7 #[.slice A n c, .int .i64 (m : Int)] w fun e w' => e = .returned (.slice A (min n m) c) ∧ w = w' := by
  have h1 := hs.cap
  have h2 := hs.max
  have hmI : (m : Int) ≤ 1000000 := by omega
  have hm0 : (0 : Int) ≤ m := by omega
  have hnI : (n : Int) ≤ 9223372036854775807 := by omega
  by_cases h : m < n
  · obtain ⟨b, off, v, rfl, _, _, _⟩ := hs.at_ (k := 0) (by omega)
    have hI : (m : Int) < n := by omega
    have hmc : (m : Int) ≤ c := by omega
    have hmn : min n m = m := by omega
    have HMN := Lib.hid hmn
    clear hs h hmn
    go_enter Try.func7, Try.ntmps7
    go_wp2
    go_ret
    rw [HMN.out]
    exact ⟨rfl, rfl⟩
  · have hI : (n : Int) ≤ m := by omega
    have hmn : min n m = n := by omega
    have HMN := Lib.hid hmn
    clear hs h hmn
    go_enter Try.func7, Try.ntmps7
    go_wp2
    go_ret
    rw [HMN.out]
    exact ⟨rfl, rfl⟩

/-- a byte off a number -/
def toB (z : Int) : BitVec 8 := BitVec.ofInt 8 z
theorem W8_toB {z : Int} (h : (Lit.int .u8 z).wf = true) : W8 (toB z) = .int .u8 z := by
  have hb := bounds_u8 h
  have : ((BitVec.ofInt 8 z).toNat : Int) = z := by
    rw [BitVec.toNat_ofInt]
    omega
  show Value.int .u8 ((BitVec.ofInt 8 z).toNat : Int) = _
  rw [this]
theorem slV_of_row {w : World} {a : Option Addr} {len cap : Nat} {zs : List Int}
    (h : (a = none ∧ len = 0 ∧ cap = 0 ∧ zs = []) ∨ ∃ x, a = some x ∧ len ≤ cap ∧ cap ≤ maxLen ∧ zs.length = cap ∧ (∀ i, i < zs.length → w.cell? (x.add i) = some (.int .u8 (zs.getD i 0))) ∧ ∀ n ∈ zs, (Lit.int .u8 n).wf = true) :
    ∃ bs : List (BitVec 8), SlV w w.heap.size a len cap (bs.map W8) ∧ (a = none → cap = 0) := by
  rcases h with ⟨rfl, rfl, rfl, rfl⟩ | ⟨x, rfl, hl, hm, hz, hc, hwf⟩
  · exact ⟨[], SlV.nil _ _ _ (by decide), fun _ => rfl⟩
  · refine ⟨(zs.take len).map toB, ⟨by simp; omega, hl, by simpa [maxLen] using hm, fun hne => ?_⟩, fun h => by cases h⟩
    have hlen : 0 < len := by
      rcases Nat.eq_zero_or_pos len with h | h
      · subst h; simp at hne
      · exact h
    obtain ⟨b, off, spot⟩ := x
    have h0 := hc 0 (by omega)
    have hsp : spot = none := by simpa [Addr.add] using World.cell?_spot h0
    subst hsp
    refine ⟨b, off, rfl, World.block_lt_of_cell? w _ (by simpa [Addr.add] using h0), fun k v hv => ?_⟩
    rw [List.map_map, List.getElem?_map, Option.map_eq_some_iff] at hv
    obtain ⟨z, hzk, rfl⟩ := hv
    rw [List.getElem?_take] at hzk
    split at hzk
    · rename_i hkl
      have h1 := hc k (by omega)
      rw [Addr.add_lit] at h1
      rw [h1, List.getD_eq_getElem?_getD, hzk]
      show some (Value.int .u8 z) = some (W8 (toB z))
      rw [W8_toB (hwf z (List.mem_of_getElem? hzk))]
    · cases hzk


/-- a whole block, as the caller's own -/
theorem row_own {t : TypeId} {w : World} {g base : Nat} {vs : List Value} (h : RowV t w g vs) (hb : base ≤ g) (hm : vs.length ≤ 17592186044416) : w.ownsRow base t 1 (.slice (some ⟨g, 0, none⟩) vs.length vs.length) vs.length vs :=
  ⟨by simp, .inr ⟨g, vs.length, vs.toArray, rfl, hb, h, Nat.le_refl _, Nat.le_trans hm (by decide), by simp, by simp⟩⟩
/-- bytes that a call hands back in memory of its own -/
def FreshV (w : World) (B : Nat) (v : Value) (l : List (BitVec 8)) : Prop := ∃ A c, v = .slice A l.length c ∧ SlV w w.heap.size A l.length c (l.map W8) ∧ (A = none → c = 0) ∧ ∀ a, A = some a → B ≤ a.block
theorem FreshV.of_own {w : World} {B n : Nat} {v : Value} {l : List (BitVec 8)} (h : w.ownsRow B 5 1 v n (l.map W8)) : FreshV w B v l := by
  obtain ⟨A, c, rfl, h1, h2, h3⟩ := SlV.of_own' h
  obtain rfl : n = l.length := by simpa using h1.len
  exact ⟨A, c, rfl, h1, h3, fun a e => h2 a.block a.off a.spot e⟩
theorem FreshV.take_ {w : World} {B n c : Nat} {A : Option Addr} {l l' : List (BitVec 8)} (h : SlV w w.heap.size A n c (l.map W8)) (hz : A = none → c = 0) (hB : ∀ a, A = some a → B ≤ a.block) (k : Nat) (hk : k ≤ n) (hl : l.take k = l') : FreshV w B (.slice A k c) l' := by
  have hn : n = l.length := by simpa using h.len
  have h2 := h.take (k := k) hk
  rw [← List.map_take, hl] at h2
  obtain rfl : k = l'.length := by rw [← hl, List.length_take]; omega
  exact ⟨A, c, rfl, h2, hz, hB⟩
theorem own_sum {w : World} {B n : Nat} {v : Value} {l : List (BitVec 8)} (h : w.ownsRow B 5 1 v n (l.map W8)) (m : List (BitVec 8)) (hm : m = l.take n) : FreshV w B v m := by
  have hl : n = l.length := by obtain ⟨A, c, _, h1, _⟩ := SlV.of_own' h; simpa using h1.len
  have : m = l := by rw [hm, List.take_of_length_le (by omega)]
  subst this
  exact FreshV.of_own h
theorem FreshV.sl {w : World} {B : Nat} {v : Value} {l : List (BitVec 8)} (h : FreshV w B v l) : ∃ A c, v = .slice A l.length c ∧ SlV w w.heap.size A l.length c (l.map W8) ∧ (A = none → c = 0) := by
  obtain ⟨A, c, e, h1, h2, _⟩ := h
  exact ⟨A, c, e, h1, h2⟩
theorem FreshV.mono_ {w : World} {B B' : Nat} {v : Value} {l : List (BitVec 8)} (h : FreshV w B v l) (hb : B' ≤ B) : FreshV w B' v l := by
  obtain ⟨A, c, e, h1, h2, h3⟩ := h
  exact ⟨A, c, e, h1, h2, fun a ha => Nat.le_trans hb (h3 a ha)⟩

theorem FreshV.conv {w w' : World} {c : Nat} {A : Option Addr} {l : List (BitVec 8)} (h : SlV w w.heap.size A l.length c (l.map W8)) (hb : Below w.heap.size w w') : (convert 22 9 (.slice A l.length c)).run Try.prog w' = .ok (strV l) w' := conv_str (h.below hb)

/-- an own slice with its whole block -/
theorem own_row {w : World} {base : Nat} {e : TypeId} {v : Value} {n : Nat} {xs : List Value} (h : w.ownsRow base e 1 v n xs) (hn : 0 < n) :
    ∃ g c vs, v = .slice (some ⟨g, 0, none⟩) n c ∧ base ≤ g ∧ n ≤ c ∧ c ≤ 9223372036854775807 ∧ vs.length = c ∧ vs.take n = xs ∧ RowV e w g vs := by
  rcases h.2 with ⟨_, h0⟩ | ⟨g, cap, cur, rfl, hbase, hh, hnc, hcm, hcs, ht⟩
  · omega
  · refine ⟨g, cap, cur.toList, rfl, hbase, hnc, by simpa [maxLen] using hcm, by simpa using hcs, by simpa using ht, ?_⟩
    unfold RowV
    rw [hh]
end Go.Proofs.Ytabhdkjepbkooaa
