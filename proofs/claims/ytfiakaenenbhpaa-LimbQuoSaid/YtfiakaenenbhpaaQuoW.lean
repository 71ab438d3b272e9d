/- A quotient of two words, as one step of the walk. -/
import Derived.Test.YtfiakaenenbhpaaQuoM
namespace Go.Proofs.Ytfiakaenenbhpaa
open Go.RowKit

theorem wl_quo {w : World} {ops : Array Oper} {rest : List Oper} {o : Oper} {a : Act} {Q : Exit → Act → World → Prop} (hgd : o.guard = none) (l r : Operand)
    (hop : o.op = Op.binOp BinOp.quo 58 l r 58) (N D : Nat) (hl : a.eval l = .int .u64 (N : Int)) (hr : a.eval r = .int .u64 (D : Int)) (hN : N < 18446744073709551616) (hD : 0 < D)
    (h : wpList Try.prog ops Q rest (a.put o.dst (.int .u64 ((N / D : Nat) : Int))) w) :
    wpList Try.prog ops Q (o :: rest) a w := by
  refine wpList_plain hgd fun K hK => ?_
  have h2 : IntKind.u64.wrap ((N : Int) / D) = ((N / D : Nat) : Int) := by rw [← Int.natCast_ediv, wrap_nat64 (Nat.lt_of_le_of_lt (Nat.div_le_self _ _) hN)]
  unfold Oper.wp
  simp only [execOp, hop]
  rw [hl, hr]
  have hb : (binOp BinOp.quo 58 (.int .u64 (N : Int)) (.int .u64 (D : Int))).run Try.prog w = .ok (.int .u64 ((N / D : Nat) : Int)) w := by
    simp [h2, go_sem]
    omega
  simp [eqGuard, hb, Result.andThen]
  exact hK _ _ h
end Go.Proofs.Ytfiakaenenbhpaa
