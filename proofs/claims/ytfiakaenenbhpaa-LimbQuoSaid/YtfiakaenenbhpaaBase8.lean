/- Words for memory: slices of bytes that the call makes. -/
import Derived.Test.YtfiakaenenbhpaaLimbI
namespace Go.Proofs.Ytfiakaenenbhpaa
open Go.RowKit

abbrev U8 (x : Nat) : Value := .int .u8 (x : Int)
/-- block g is, whole, the bytes zs -/
def Row8 (w : World) (g : Nat) (zs : List Nat) : Prop := w.heap[g]? = some (.cells (zs.map U8).toArray 5 (0, 0))
theorem Row8.lt {w : World} {g : Nat} {zs : List Nat} (h : Row8 w g zs) : g < w.heap.size := (Array.getElem?_eq_some_iff.1 h).1
theorem Row8.at_ {w : World} {g : Nat} {zs : List Nat} (h : Row8 w g zs) {i x : Nat} (hx : zs[i]? = some x) : w.cell? ⟨g, i, none⟩ = some (.int .u8 (x : Int)) := by
  rw [cell_of_row w g i _ _ (0, 0) h]; simp [hx]
theorem Row8.frozen {w : World} {g : Nat} {zs : List Nat} (h : Row8 w g zs) (i : Nat) : w.frozen? ⟨g, i, none⟩ = false := by
  unfold Row8 at h
  simp [World.frozen?, h]
theorem Row8.set_ {w : World} {g : Nat} {zs : List Nat} (h : Row8 w g zs) {i x : Nat} {z : Int} (e : z = (x : Int)) : Row8 (w.setCell ⟨g, i, none⟩ (.int .u8 z)) g (zs.set i x) := by
  subst e
  unfold Row8 at h ⊢
  simp [World.setCell, Array.getElem?_modify, h, List.map_set]
theorem Row8.below {w w' : World} {g B : Nat} {zs : List Nat} (h : Row8 w g zs) (hb : Below B w w') (hg : g < B) : Row8 w' g zs := (hb.block g hg).trans h
theorem Row8.drewN {w : World} {g : Nat} {zs : List Nat} (h : Row8 w g zs) (n : Nat) : Row8 (w.drewN n) g zs := h

/-- the slice from A on reads the bytes bs -/
def Sl8 (w : World) (B : Nat) (A : Option Addr) (n c : Nat) (bs : List Nat) : Prop :=
  n = bs.length ∧ n ≤ c ∧ c ≤ 9223372036854775807 ∧ (∀ x ∈ bs, x < 256) ∧ (bs ≠ [] → ∃ b off, A = some ⟨b, off, none⟩ ∧ b < B ∧ ∀ (k x : Nat), bs[k]? = some x → w.cell? ⟨b, off + k, none⟩ = some (.int .u8 (x : Int)))
theorem Sl8.below {w w' : World} {B n c : Nat} {A : Option Addr} {bs : List Nat} (h : Sl8 w B A n c bs) (hb : Below B w w') : Sl8 w' B A n c bs :=
  ⟨h.1, h.2.1, h.2.2.1, h.2.2.2.1, fun hn => by
    obtain ⟨b, off, e, hlt, hc⟩ := h.2.2.2.2 hn
    exact ⟨b, off, e, hlt, fun k x hx => (hb.cell (p := ⟨b, off + k, none⟩) hlt).trans (hc k x hx)⟩⟩
theorem Sl8.more {w : World} {B B' n c : Nat} {A : Option Addr} {bs : List Nat} (h : Sl8 w B A n c bs) (hB : B ≤ B') : Sl8 w B' A n c bs :=
  ⟨h.1, h.2.1, h.2.2.1, h.2.2.2.1, fun hn => by
    obtain ⟨b, off, e, hlt, hc⟩ := h.2.2.2.2 hn
    exact ⟨b, off, e, by omega, hc⟩⟩
theorem Sl8.at_ {w : World} {B n c : Nat} {A : Option Addr} {bs : List Nat} (h : Sl8 w B A n c bs) {k : Nat} (hk : k < n) :
    ∃ b off x, A = some ⟨b, off, none⟩ ∧ b < B ∧ bs[k]? = some x ∧ x < 256 ∧ w.cell? ⟨b, off + k, none⟩ = some (.int .u8 (x : Int)) := by
  have hl := h.1
  obtain ⟨b, off, e, hlt, hc⟩ := h.2.2.2.2 (by intro e; subst e; simp at hl; omega)
  exact ⟨b, off, bs[k]'(by omega), e, hlt, List.getElem?_eq_getElem (by omega), h.2.2.2.1 _ (List.getElem_mem _), hc k _ (List.getElem?_eq_getElem (by omega))⟩
theorem Row8.sl {w : World} {g : Nat} {zs : List Nat} (h : Row8 w g zs) (hz : zs.length ≤ 9223372036854775807) (hb : ∀ x ∈ zs, x < 256) : Sl8 w w.heap.size (some ⟨g, 0, none⟩) zs.length zs.length zs :=
  ⟨rfl, Nat.le_refl _, hz, hb, fun _ => ⟨g, 0, rfl, h.lt, fun k x hx => by rw [Nat.zero_add]; exact h.at_ hx⟩⟩

theorem Try.infoB : (Try.prog.info? 5).map (fun i => (i.zero, i.size, i.bytes)) = some (some (.int .u8 0), 1, 1) := by kernel_rfl
theorem wl_make8 {w : World} {ops : Array Oper} {rest : List Oper} {o : Oper} {a : Act} {Q : Exit → Act → World → Prop} (hg : o.guard = none) (l : Operand) (t : TypeId) (ht : Try.prog.underlying t = some (.slice 5))
    (hop : o.op = Op.makeSlice t l l) (N : Int) (n : Nat) (hl : a.eval l = .int .i64 N) (hN : N = n) (hn : n ≤ 281474976710656)
    (h : ∀ w', Row8 w' w.heap.size (List.replicate n 0) → Below w.heap.size w w' → w'.heap.size = w.heap.size + 1 → wpList Try.prog ops Q rest (a.put o.dst (.slice (some ⟨w.heap.size, 0, none⟩) n n)) w') :
    wpList Try.prog ops Q (o :: rest) a w := by
  obtain ⟨i0, hi, hz0, hz1, hz2⟩ := info_parts Try.infoB
  subst hN
  refine wpList_plain hg fun K hK => ?_
  have hb : (i0.bytes : Int) * (n : Int) ≤ 281474976710656 := by rw [hz2]; omega
  have hr := run_make (P := Try.prog) w t 5 i0 (.int .u8 0) ht hi hz0 .i64 .i64 n n (by omega) (by omega) hb (by omega)
  simp only [Int.toNat_natCast] at hr
  unfold Oper.wp
  simp [execOp, hop, hl, hr, Result.andThen]
  refine hK _ _ (h _ ?_ ((Below.refl _ _).alloc (Nat.le_refl _) _) (by simp))
  unfold Row8
  rw [heap_alloc_new, hz1, Nat.mul_one]
  have e : madeCells (Value.int IntKind.u8 0).cells n = (List.map U8 (List.replicate n 0)).toArray := by
    apply Array.ext'
    rw [show (Value.int IntKind.u8 0).cells = #[Value.int IntKind.u8 0] from rfl, toList_madeCells_one]
    simp [U8]
  rw [e]

/-- the n digits of N in base 256, the most significant first -/
def be (n N : Nat) : List Nat := (List.range n).map fun i => N / 256 ^ (n - 1 - i) % 256
theorem be_length (n N : Nat) : (be n N).length = n := by simp [be]
theorem be_get {n N i : Nat} (h : i < n) : (be n N)[i]? = some (N / 256 ^ (n - 1 - i) % 256) := by simp [be, h]
theorem be_lt (n N : Nat) : ∀ x ∈ be n N, x < 256 := by
  intro x hx
  obtain ⟨i, _, rfl⟩ := List.mem_map.1 hx
  exact Nat.mod_lt _ (by decide)
end Go.Proofs.Ytfiakaenenbhpaa
