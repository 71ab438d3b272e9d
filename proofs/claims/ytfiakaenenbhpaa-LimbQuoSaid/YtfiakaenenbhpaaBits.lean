/- math/bits.Add64 and Sub64, in the walk. -/
import Derived.Test.YtfiakaenenbhpaaLaws
import Derived.Test.YtfiakaenenbhpaaMathB
import Derived.Laws.Externs
namespace Go.Proofs.Ytfiakaenenbhpaa
open Go.RowKit

theorem callAdd64 (x y c : Nat) (hc : c ≤ 1) (w : World) :
    (callFunc 53 #[.int .u64 x, .int .u64 y, .int .u64 c]).run Try.prog w =
      .ok (.value (.tuple #[.int .u64 (((x + y + c) % 18446744073709551616 : Nat) : Int), .int .u64 (((x + y + c) / 18446744073709551616 : Nat) : Int)])) w := by
  rw [run_callFunc_extern Try.func53 (by kernel_rfl) (by kernel_rfl) (by kernel_rfl) (e := add64Entry) (by kernel_rfl), run_add64 x y c (by omega) (by omega) (by omega) (by omega)]
  simp only [Result.andThen]
  congr 5 <;> omega

def sub64E : Array Value → Sem Value := fun args => do
  let (x, y, b) ← Extern.MathBitsCarry.three "Sub64" args
  pure (Extern.MathBitsCarry.pair ((x + Extern.MathBitsCarry.m64 - y - b) % Extern.MathBitsCarry.m64) (if x < y + b then 1 else 0))

theorem run_sub64E (x y b : Nat) (hb : b ≤ 1) (w : World) :
    (sub64E #[.int .u64 x, .int .u64 y, .int .u64 b]).run Try.prog w =
      .ok (.tuple #[.int .u64 (((x + 18446744073709551616 - y - b) % 18446744073709551616 : Nat) : Int), .int .u64 ((if x < y + b then 1 else 0 : Nat) : Int)]) w := by
  have : b = 0 ∨ b = 1 := by omega
  rcases this with rfl | rfl <;> rfl

theorem callSub64 (x y b : Nat) (hb : b ≤ 1) (w : World) :
    (callFunc 41 #[.int .u64 x, .int .u64 y, .int .u64 b]).run Try.prog w =
      .ok (.value (.tuple #[.int .u64 (((x + 18446744073709551616 - y - b) % 18446744073709551616 : Nat) : Int), .int .u64 ((if x < y + b then 1 else 0 : Nat) : Int)])) w := by
  rw [run_callFunc_extern Try.func41 (by kernel_rfl) (by kernel_rfl) (by kernel_rfl) (e := sub64E) (by kernel_rfl), run_sub64E x y b hb]
  rfl

theorem wl_add64 {w : World} {ops : Array Oper} {rest : List Oper} {o : Oper} {a : Act} {Q : Exit → Act → World → Prop} (hgd : o.guard = none) (p q r : Operand)
    (ho : o.op = .call { callee := .value (.func 53), args := #[p, q, r], argTypes := #[58, 58, 58] })
    (x y c : Nat) (hp : a.eval p = .int .u64 x) (hq : a.eval q = .int .u64 y) (hr : a.eval r = .int .u64 c) (hx : x < b64) (hy : y < b64) (hc : c ≤ 1)
    (h : ∀ s c' : Nat, s + b64 * c' = x + y + c → s < b64 → c' ≤ 1 → wpList Try.prog ops Q rest (a.put o.dst (.tuple #[.int .u64 (s : Int), .int .u64 (c' : Int)])) w) : wpList Try.prog ops Q (o :: rest) a w := by
  obtain ⟨s, c', hrun, h1, h2, h3⟩ : ∃ s c' : Nat, (callFunc 53 #[.int .u64 x, .int .u64 y, .int .u64 c]).run Try.prog w = .ok (.value (.tuple #[.int .u64 (s : Int), .int .u64 (c' : Int)])) w ∧ s + b64 * c' = x + y + c ∧ s < b64 ∧ c' ≤ 1 :=
    ⟨_, _, callAdd64 x y c hc w, by unfold b64; omega, by rw [lt64]; omega, by rw [lt64] at hx hy; omega⟩
  have h' := h s c' h1 h2 h3
  refine wpList_plain hgd fun K hK => ?_
  have hev : a.eval (.func 53) = .func (.func 53) #[] #[] := rfl
  unfold Oper.wp
  simp [execOp, ho, resolve, invoke, hev, hp, hq, hr, hrun, Deferred.ofValue]
  exact hK _ _ h'

theorem wl_sub64 {w : World} {ops : Array Oper} {rest : List Oper} {o : Oper} {a : Act} {Q : Exit → Act → World → Prop} (hgd : o.guard = none) (p q r : Operand)
    (ho : o.op = .call { callee := .value (.func 41), args := #[p, q, r], argTypes := #[58, 58, 58] })
    (x y c : Nat) (hp : a.eval p = .int .u64 x) (hq : a.eval q = .int .u64 y) (hr : a.eval r = .int .u64 c) (hx : x < b64) (hy : y < b64) (hc : c ≤ 1)
    (h : ∀ s c' : Nat, s + (y + c) = x + b64 * c' → s < b64 → c' ≤ 1 → wpList Try.prog ops Q rest (a.put o.dst (.tuple #[.int .u64 (s : Int), .int .u64 (c' : Int)])) w) : wpList Try.prog ops Q (o :: rest) a w := by
  obtain ⟨s, c', hrun, h1, h2, h3⟩ : ∃ s c' : Nat, (callFunc 41 #[.int .u64 x, .int .u64 y, .int .u64 c]).run Try.prog w = .ok (.value (.tuple #[.int .u64 (s : Int), .int .u64 (c' : Int)])) w ∧ s + (y + c) = x + b64 * c' ∧ s < b64 ∧ c' ≤ 1 := by
    refine ⟨_, _, callSub64 x y c hc w, ?_, by rw [lt64]; omega, by split <;> omega⟩
    rw [lt64] at hx hy
    unfold b64
    split <;> omega
  have h' := h s c' h1 h2 h3
  refine wpList_plain hgd fun K hK => ?_
  have hev : a.eval (.func 41) = .func (.func 41) #[] #[] := rfl
  unfold Oper.wp
  simp [execOp, ho, resolve, invoke, hev, hp, hq, hr, hrun, Deferred.ofValue]
  exact hK _ _ h'
end Go.Proofs.Ytfiakaenenbhpaa
