/- Slices of bytes: Clone, Grow, Concat (what the hash texts have, without the hashes). -/
import Derived.Test.YtabhdkjepbkooaaHa
import Derived.Lib.AppendZeros
set_option linter.unusedVariables false
set_option linter.unusedSimpArgs false
namespace Go.Proofs.Ytabhdkjepbkooaa
open Go.RowKit

theorem Try.elem8 : Elem Try.prog 22 5 (.int .u8 0) 1 := ⟨Try.underlying22, by kernel_rfl, rfl, rfl, by decide⟩

theorem clone_nil (w : World) : Calls Try.prog 32 #[.slice none 0 0] w fun e w' => e = .returned (.slice none 0 0) ∧ w = w' := by
  have q22 : ∀ (w : World) (a : Option Addr) (n c n' c' : Nat), (binOp .eql 22 (.slice a n c) (.slice none n' c')).run Try.prog w = .ok (.bool a.isNone) w := fun w a n c n' c' => Lib.run_eql_slice_nil w _ _ a n c n' c' Try.underlying22
  go_enter Try.func32, Try.ntmps32
  go_wp2
  go_ret
  exact ⟨rfl, rfl⟩
theorem own_empty (w : World) (e : TypeId) : (w.alloc (.cells #[] e (0, 0))).ownsRow w.heap.size e 1 (.slice (some ⟨w.heap.size, 0, none⟩) 0 0) 0 [] :=
  ⟨rfl, .inr ⟨w.heap.size, 0, #[], rfl, Nat.le_refl _, heap_alloc_new w _, Nat.le_refl _, by decide, rfl, rfl⟩⟩
set_option maxRecDepth 100000 in
set_option maxHeartbeats 1000000 in
theorem clone_any (w : World) (B : Nat) (p : Addr) (n c : Nat) (bs : List (BitVec 8)) (hs : SlV w B (some p) n c (bs.map W8)) (hB : B ≤ w.heap.size) (hn : n ≤ 17592186044416) :
    Calls Try.prog 32 #[.slice (some p) n c] w fun e w' => ∃ v, e = .returned v ∧ w'.ownsRow w.heap.size 5 1 v n (bs.map W8) ∧ Below w.heap.size w w' := by
  obtain ⟨W1, e1, r1, b1, z1⟩ := newV w 5 [] #[] rfl
  have ho := own_empty w 5
  rw [e1] at ho
  have hs1 := hs.below (b1.mono hB)
  obtain ⟨g, hg⟩ : ∃ g, w.heap.size = g := ⟨_, rfl⟩
  rw [hg] at ho b1 hB
  have hgz : g ≤ W1.heap.size := by omega
  have HG := Lib.hid hg
  have HB := Lib.hid b1
  clear hs r1 b1
  have q22 : ∀ (w : World) (a : Option Addr) (n c n' c' : Nat), (binOp .eql 22 (.slice a n c) (.slice none n' c')).run Try.prog w = .ok (.bool a.isNone) w := fun w a n c n' c' => Lib.run_eql_slice_nil w _ _ a n c n' c' Try.underlying22
  go_enter Try.func32, Try.ntmps32
  go_wp2_with (at_builtin; refine wlv_append Try.elem8 rfl _ _ rfl g _ 0 [] rfl ho (some p) n c (bs.map W8) rfl (by intro h; cases h) B hs1 (ones8 bs) (by omega) hgz ?_; intro v' w2 hown hgr)
  go_ret
  refine ⟨v', rfl, ?_, by rw [HG.out]; exact HB.out.grown hgr hgz (fun k hk => by injection hk with hk; first | omega | exact Nat.le_of_eq hk | exact Nat.le_of_eq hk.symm)⟩
  rw [HG.out]
  simpa using hown

/-- an own slice's head, of no elements -/
theorem own_head {w : World} {base : Nat} {e : TypeId} {v : Value} {n : Nat} {vs : List Value} (h : w.ownsRow base e 1 v n vs) (hn : 0 < n) :
    ∃ g cap, v = .slice (some ⟨g, 0, none⟩) n cap ∧ n ≤ cap ∧ cap ≤ 9223372036854775807 ∧ w.ownsRow base e 1 (.slice (some ⟨g, 0, none⟩) 0 cap) 0 [] := by
  rcases h.2 with ⟨_, h0⟩ | ⟨g, cap, cur, rfl, hbase, hh, hnc, hcm, hcs, _⟩
  · omega
  · exact ⟨g, cap, rfl, hnc, by simpa [maxLen] using hcm, ⟨rfl, .inr ⟨g, cap, cur, rfl, hbase, hh, Nat.zero_le _, hcm, hcs, by simp⟩⟩⟩
def catL (xs ys : List (BitVec 8)) : Nat → List (BitVec 8)
  | 0 => []
  | 1 => xs
  | _ => xs ++ ys
def lenK (n1 n : Nat) : Nat → Nat
  | 0 => 0
  | 1 => n1
  | _ => n
/-- what Clone hands out -/
theorem clone_all (w : World) (B : Nat) (A : Option Addr) (n c : Nat) (bs : List (BitVec 8)) (hs : SlV w B A n c (bs.map W8)) (hz : A = none → c = 0) (hB : B ≤ w.heap.size) (hn : n ≤ 17592186044416) :
    Calls Try.prog 32 #[.slice A n c] w fun e w' => ∃ v, e = .returned v ∧ w'.ownsRow w.heap.size 5 1 v n (bs.map W8) ∧ Below w.heap.size w w' := by
  cases A with
  | some p => exact clone_any w B p n c bs hs hB hn
  | none =>
    obtain rfl := hz rfl
    obtain rfl : n = 0 := by have := hs.cap; omega
    have hl := hs.len
    obtain rfl : bs = [] := List.eq_nil_of_length_eq_zero (by simpa using hl.symm)
    refine (clone_nil w).mono ?_
    rintro e w' ⟨rfl, rfl⟩
    exact ⟨_, rfl, ⟨rfl, .inl ⟨rfl, rfl⟩⟩, Below.refl _ _⟩
theorem own_keep {w w' : World} {base : Nat} {e : TypeId} {v : Value} {n : Nat} {vs : List Value} (h : w.ownsRow base e 1 v n vs) (hk : ∀ q, v.ownBlock = some q → w'.heap[q]? = w.heap[q]?) : w'.ownsRow base e 1 v n vs :=
  ⟨h.1, h.2.imp id (fun ⟨g, cap, cur, hv, hb, hh, r⟩ => ⟨g, cap, cur, hv, hb, (hk g (by rw [hv]; rfl)).trans hh, r⟩)⟩
theorem SlV.of_own' {w : World} {base : Nat} {e : TypeId} {v : Value} {n : Nat} {vs : List Value} (h : w.ownsRow base e 1 v n vs) :
    ∃ A c, v = .slice A n c ∧ SlV w w.heap.size A n c vs ∧ (∀ b off s, A = some ⟨b, off, s⟩ → base ≤ b) ∧ (A = none → c = 0) := by
  obtain ⟨A, c, rfl, h1, h2, _⟩ := SlV.of_own h
  refine ⟨A, c, rfl, h1, h2, fun e => ?_⟩
  subst e
  rcases h.2 with ⟨e, _⟩ | ⟨g, cap, cur, e, _⟩
  · cases e; rfl
  · cases e
theorem own_form {w : World} {base : Nat} {e : TypeId} {v : Value} {n : Nat} {xs : List Value} (h : w.ownsRow base e 1 v n xs) : ∃ A c, v = .slice A n c := by
  rcases h.2 with ⟨rfl, rfl⟩ | ⟨g, cap, cur, rfl, _⟩
  · exact ⟨none, 0, rfl⟩
  · exact ⟨_, _, rfl⟩
theorem own_form0 {w : World} {base : Nat} {e : TypeId} {v : Value} {n : Nat} {xs : List Value} (h : w.ownsRow base e 1 v n xs) (hn : 0 < n) : ∃ g c, v = .slice (some ⟨g, 0, none⟩) n c ∧ base ≤ g ∧ SlV w w.heap.size (some ⟨g, 0, none⟩) n c xs := by
  obtain ⟨A, c, rfl, h1, h2, h3⟩ := SlV.of_own h
  rcases h.2 with ⟨e, h4⟩ | ⟨g, cap, cur, e, h4, _⟩
  · omega
  · injection e with e1 e2 e3
    subst e1
    exact ⟨g, c, rfl, h4, h1⟩
theorem own_base {w : World} {base b0 : Nat} {e : TypeId} {v : Value} {n : Nat} {xs : List Value} (h : w.ownsRow base e 1 v n xs) (hb : b0 ≤ base) : w.ownsRow b0 e 1 v n xs :=
  ⟨h.1, h.2.imp id (fun ⟨g, cap, cur, h1, h2, h3⟩ => ⟨g, cap, cur, h1, Nat.le_trans hb h2, h3⟩)⟩
theorem own_later {w w' : World} {base : Nat} {e : TypeId} {v : Value} {n : Nat} {vs : List Value} (h : w.ownsRow base e 1 v n vs) (hb : Below w.heap.size w w') : w'.ownsRow base e 1 v n vs := own_keep h (fun q hq => hb.block q (h.lt q hq).2)
end Go.Proofs.Ytabhdkjepbkooaa
