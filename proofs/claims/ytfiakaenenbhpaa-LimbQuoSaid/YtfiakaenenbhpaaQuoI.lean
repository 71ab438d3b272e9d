/- limb.shortQuo, whatever the number. -/
import Derived.Test.YtfiakaenenbhpaaLimbG
import Derived.Test.YtfiakaenenbhpaaQuoD
namespace Go.Proofs.Ytfiakaenenbhpaa
open Go.RowKit

theorem q_step {B : Nat} {xs zs : List Nat} {m r x t : Nat} (hx : xs[t]? = some x) (hl : t < zs.length) (h : V B (xs.drop (t + 1)) = m * V B (zs.drop (t + 1)) + r) :
    V B (xs.drop t) = m * V B ((zs.set t ((r * B + x) / m)).drop t) + (r * B + x) % m := by
  have hx' := (List.getElem?_eq_some_iff.1 hx)
  obtain ⟨ht, hxe⟩ := hx'
  have e1 : (zs.set t ((r * B + x) / m)).drop t = ((r * B + x) / m) :: zs.drop (t + 1) := by
    rw [List.drop_eq_getElem_cons (l := zs.set t ((r * B + x) / m)) (i := t) (by rw [List.length_set]; exact hl), List.drop_set_of_lt (by omega), List.getElem_set_self]
  rw [List.drop_eq_getElem_cons ht, hxe, V_cons, h, e1, V_cons]
  have h1 := Nat.div_add_mod (r * B + x) m
  rw [Nat.mul_add, Nat.mul_add, Nat.mul_left_comm B m, Nat.mul_comm B r]
  omega

theorem sq_val {d : Nat} {xs : List Nat} {n : Nat} (hn : n = xs.length) (hd0 : 0 < d) : ∀ k, k ≤ n →
    (sq d xs n (downL n k)).1.length = n ∧ (sq d xs n (downL n k)).2 < d ∧
      V b64 (xs.drop (n - k)) = d * V b64 ((sq d xs n (downL n k)).1.drop (n - k)) + (sq d xs n (downL n k)).2
  | 0, _ => by
    refine ⟨by simp [downL, sq], by simpa [downL, sq] using hd0, ?_⟩
    rw [Nat.sub_zero, List.drop_of_length_le (by omega), List.drop_of_length_le (by simp [downL, sq])]
    simp [downL, sq, V]
  | k + 1, hk => by
    obtain ⟨h1, h2, h3⟩ := sq_val hn hd0 k (by omega)
    obtain ⟨x, hx⟩ := get_lt (zs := xs) (k := n - 1 - k) (by omega)
    rw [downL_succ, sq_snoc]
    unfold sqStep
    rw [hx]
    simp only [Option.getD_some]
    refine ⟨by rw [List.length_set]; exact h1, Nat.mod_lt _ hd0, ?_⟩
    have e : n - k = n - 1 - k + 1 := by omega
    rw [e] at h3
    rw [show n - (k + 1) = n - 1 - k by omega]
    exact q_step hx (by omega) h3

theorem shortQuo_full (w : World) (A : Option Addr) (n c : Nat) (xs : List Nat) (hs : Sl w w.heap.size A n c xs) (hd : Dg b64 xs) (h1 : n ≤ 17592186044416) (d : Nat) (hd0 : 0 < d) (hdl : d < b64) :
    Calls Try.prog 45 #[.slice A n c, .int .u64 (d : Int)] w fun e w' =>
      ∃ A3 n3 c3 q A4 n4 c4 r, e = .returned (.tuple #[.slice A3 n3 c3, .slice A4 n4 c4]) ∧ Sl w' w'.heap.size A3 n3 c3 q ∧ Sl w' w'.heap.size A4 n4 c4 r ∧ Below w.heap.size w w' ∧ Nm b64 q (V b64 xs / d) ∧ Nm b64 r (V b64 xs % d) := by
  obtain ⟨v1, v2, v3⟩ := sq_val hs.len hd0 n (Nat.le_refl _)
  rw [Nat.sub_self, List.drop_zero, List.drop_zero] at v3
  have f1 : V b64 xs / d = V b64 (sq d xs n (downL n n)).1 := by
    rw [v3, Nat.mul_add_div hd0, Nat.div_eq_of_lt v2, Nat.add_zero]
  have f2 : V b64 xs % d = (sq d xs n (downL n n)).2 := by
    rw [v3, Nat.mul_add_mod, Nat.mod_eq_of_lt v2]
  rw [f1, f2]
  exact shortQuo_any w _ rfl A n c xs hs hd h1 d hd0 hdl (fun r => r < d) hd0 (fun r x _ _ _ => Nat.mod_lt _ hd0)
    (fun r x W hr hx => div64_any r x d hr hx hdl W)
end Go.Proofs.Ytfiakaenenbhpaa
