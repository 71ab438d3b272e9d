/- PadEnc1, walked: the combined contracts. -/
import Derived.Test.YtnpaidieijlkkaaDoorQPeF
import Derived.Test.YtnpaidieijlkkaaDoorQWPoo
set_option linter.unusedVariables false
set_option linter.unusedSimpArgs false
namespace Go.Proofs.YtnpaidieijlkkaaDoor
open Go.RowKit Go.Shelf

theorem idx_fill (f msg : List (BitVec 8)) (hz : ∀ x ∈ f, x ≠ 0) : idxL 0 (f ++ 0 :: msg) = f.length := by
  induction f with
  | nil => simp [idxL]
  | cons y f ih =>
    have h1 := ih (fun x hx => hz x (List.mem_cons_of_mem _ hx))
    have h2 : y ≠ 0 := hz y List.mem_cons_self
    rw [List.cons_append, idxL, if_neg h2, h1, if_neg (by omega), List.length_cons]
    omega
theorem dec1_frame (f msg : List (BitVec 8)) (hz : ∀ x ∈ f, x ≠ 0) (h8 : 8 ≤ f.length) : dec1L (frameW 2 f msg) = some msg := by
  have hi := idx_fill f msg hz
  have hd : (frameW 2 f msg).drop 2 = f ++ 0 :: msg := rfl
  have hp : ([0, 2] : List (BitVec 8)).isPrefixOf (frameW 2 f msg) = true := rfl
  rw [dec1L, hd, hi, if_pos ⟨hp, by omega⟩, Int.toNat_natCast]
  congr 1
  rw [show f.length + 1 = (f ++ [0]).length by simp, show f ++ 0 :: msg = (f ++ [0]) ++ msg by simp, List.drop_left' rfl]
theorem nzL_nz (l : List (BitVec 8)) : ∀ x ∈ nzL l, x ≠ 0 := fun x hx => by simpa using (List.mem_filter.1 hx).2
def EncP (n : Int) (msg rb : List (BitVec 8)) (R : Int) (V : List (BitVec 8)) (C : Nat) : Prop :=
  ∀ (w : World) (B q bb cc ab : Nat) (A2 : Option Addr) (n2 c2 : Nat) (A : Option Addr) (m c : Nat), bb ≠ q → cc ≠ q → (rb ≠ [] → ∀ b off s, A2 = some ⟨b, off, s⟩ → b = ab) → ab ≠ q → ab < w.heap.size →
    SlV w w.heap.size A2 n2 c2 (rb.map W8) → BxE q (.int .i64 0) w → BxE bb (.slice A2 n2 c2) w → BxE cc (.pointer (some ⟨q, 0, none⟩)) w → B ≤ q → SlV w w.heap.size A m c (msg.map W8) → StartsG w → RootsG w →
    Calls Tryd.prog 22 #[.int .i64 n, .slice A m c, gvF bb cc] w fun e w' => ∃ v, e = .returned (.tuple #[v, .int .i64 R]) ∧ FreshV w' w.heap.size v V ∧ BxE q (.int .i64 (C : Int)) w' ∧ Below B w w'
def EncR (n : Int) (msg rb : List (BitVec 8)) (R : Int) (V : List (BitVec 8)) (C : Nat) : Prop :=
  ∀ (w : World) (A2 : Option Addr) (n2 c2 : Nat) (A : Option Addr) (m c : Nat), SlV w w.heap.size A2 n2 c2 (rb.map W8) → SlV w w.heap.size A m c (msg.map W8) → (A = none → c = 0) →
    Calls Tryd.prog 24 #[.int .i64 n, .slice A m c, .slice A2 n2 c2] w fun e w' => ∃ v, e = .returned (.tuple #[v, .int .i64 (C : Int), .int .i64 R]) ∧ FreshV w' w.heap.size v V ∧ Below w.heap.size w w'
theorem below_refl' (B : Nat) (w : World) : Below B w w := ⟨rfl, rfl, rfl, Nat.le_refl _, fun _ _ => rfl⟩
theorem enc1_both (n : Int) (h0 : -9223372036854775808 ≤ n) (h1 : n ≤ 200 ∨ 65536 < n) (msg rb : List (BitVec 8)) (hrb : rb.length ≤ 1000000) :
    ∃ R V C, EncP n msg rb R V C ∧ EncR n msg rb R V C ∧ (R = 0 → dec1V V = msg ∧ dec1R V = 0 ∧ V.length ≤ 200) := by
  by_cases ha : 65536 < n
  · refine ⟨7, [], 0, ?_, ?_, fun h => by cases h⟩
    · intro w B q bb cc ab A2 n2 c2 A m c _ _ _ _ _ _ hq _ _ _ hs _ _
      refine (penc1_no w n A m c bb cc 7 (by decide) (pframe_1 w n _ A m c ha)).mono ?_
      rintro e w' ⟨rfl, rfl⟩
      exact ⟨_, rfl, FreshV.nil_ _ _, hq, below_refl' _ _⟩
    · intro w A2 n2 c2 A m c _ _ _
      refine (renc1_no1 w n _ _ ha).mono ?_
      rintro e w' ⟨rfl, rfl⟩
      exact ⟨_, rfl, FreshV.nil_ _ _, below_refl' _ _⟩
  · by_cases hb : n < 11 ∨ n - 11 < msg.length
    · refine ⟨33, [], 0, ?_, ?_, fun h => by cases h⟩
      · intro w B q bb cc ab A2 n2 c2 A m c _ _ _ _ _ _ hq _ _ _ hs _ _
        have hl : msg.length = m := by simpa using hs.len.symm
        refine (penc1_no w n A m c bb cc 33 (by decide) (pframe_2 w n _ A m c h0 (by omega) (by omega))).mono ?_
        rintro e w' ⟨rfl, rfl⟩
        exact ⟨_, rfl, FreshV.nil_ _ _, hq, below_refl' _ _⟩
      · intro w A2 n2 c2 A m c _ hs _
        have hl : msg.length = m := by simpa using hs.len.symm
        refine (renc1_no2 w n A m c _ h0 (by omega) (by omega)).mono ?_
        rintro e w' ⟨rfl, rfl⟩
        exact ⟨_, rfl, FreshV.nil_ _ _, below_refl' _ _⟩
    · obtain ⟨N, rfl⟩ : ∃ N : Nat, n = N := ⟨n.toNat, by omega⟩
      obtain ⟨r, hr⟩ : ∃ r, msg.length + 3 + r = N := ⟨N - msg.length - 3, by omega⟩
      obtain ⟨K, hK⟩ := fillEnd_ex rb r
      refine ⟨fillR rb r K, fillV rb msg r K, K, ?_, ?_, ?_⟩
      · intro w B q bb cc ab A2 n2 c2 A m c a1 a2 a3 a4 a5 a6 a7 a8 a9 a10 hs _ _
        have hl : msg.length = m := by simpa using hs.len.symm
        have hl2 : rb.length = n2 := by simpa using a6.len.symm
        exact penc1_ok w B q bb cc ab a1 a2 A2 n2 c2 rb a3 a4 a5 a6 (by omega) a7 a8 a9 a10 N (by omega) A m c msg hs r (by omega) (by omega) K hK
      · intro w A2 n2 c2 A m c h2 hs hz
        have hl : msg.length = m := by simpa using hs.len.symm
        have hl2 : rb.length = n2 := by simpa using h2.len.symm
        exact renc1_run w N (by omega) _ A m c msg hs hz (Nat.le_refl _) r (by omega) (by omega) A2 n2 c2 rb h2 (by omega) K hK
      · intro h
        by_cases hf : (nzL (rb.take K)).length = r
        · have hd := dec1_frame (nzL (rb.take K)) msg (nzL_nz _) (by omega)
          rw [fillV, if_pos hf]
          refine ⟨by rw [dec1V, hd]; rfl, by rw [dec1R, hd]; rfl, by rw [frameW_length]; omega⟩
        · rw [fillR, if_neg hf] at h; cases h
set_option maxRecDepth 100000 in
set_option maxHeartbeats 1000000 in
theorem given_any (w : World) (A : Option Addr) (n c q : Nat) :
    Calls Tryd.prog 23 #[.slice A n c, .pointer (some ⟨q, 0, none⟩)] w fun e w' => e = .returned (gvF w.heap.size (w.heap.size + 1)) ∧ BxE w.heap.size (.slice A n c) w' ∧ BxE (w.heap.size + 1) (.pointer (some ⟨q, 0, none⟩)) w' ∧ Below w.heap.size w w' := by
  have hmf : ∀ (fn : Fn) (first cap : Array Value) (w : World), (Instr.makeFunc fn first cap).run Tryd.prog w = .ok (.func fn first cap) w := fun _ _ _ _ => rfl
  obtain ⟨W1, e1, hB1, b1, s1⟩ := newBox w 22 (.slice A n c)
  obtain ⟨W2, e2, hB2, b2, s2⟩ := newBox W1 43 (.pointer (some ⟨q, 0, none⟩))
  rw [s1] at b2 hB2
  have h1 := b1.later (hB2.mono (by omega))
  have HB := Lib.hid (⟨h1, b2, hB1.trans (hB2.mono (by omega))⟩ : BxE w.heap.size (.slice A n c) W2 ∧ BxE (w.heap.size + 1) (.pointer (some ⟨q, 0, none⟩)) W2 ∧ Below w.heap.size w W2)
  clear h1 b1 b2 hB1 hB2 s2
  go_enter Tryd.func23, Tryd.ntmps23
  go_wp2
  go_ret
  exact ⟨rfl, HB.out⟩
end Go.Proofs.YtnpaidieijlkkaaDoor
