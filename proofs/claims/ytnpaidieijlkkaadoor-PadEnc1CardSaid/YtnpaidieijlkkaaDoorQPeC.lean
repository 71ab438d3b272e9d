/- pad: fill's deferred function. -/
import Derived.Test.YtnpaidieijlkkaaDoorQDd
import Derived.Test.YtnpaidieijlkkaaDoorQPeB
import Derived.Recover
import Derived.RecoverIn
set_option linter.unusedVariables false
set_option linter.unusedSimpArgs false
namespace Go.Proofs.YtnpaidieijlkkaaDoor
open Go.RowKit Go.Shelf

set_option maxRecDepth 100000 in
theorem pfill1_in (nn : Nat) (w : World) (f b e : Nat) (L : Nat) (A : Option Addr) (m c : Nat) (v0 : Value) (hf : BxE f (.int .i64 (L : Int)) w) (hb : BxE b (.slice A m c) w) (he : BxE e v0 w) :
    CallsDIn Fence.wide nn Tryd.prog 74 #[.pointer (some ⟨f, 0, none⟩), .pointer (some ⟨b, 0, none⟩), .pointer (some ⟨e, 0, none⟩)] .returning w fun en u w' => en = .returned (.tuple #[]) ∧ u = .returning ∧ w' = w.setCell ⟨e, 0, none⟩ (.bool ((L : Int) == (m : Int))) := by
  have q1 := hf.1
  have q2 := hb.1
  have q3 := he.1
  have q4 := he.2.1
  refine callsDIn_of_wpSIn Tryd.func74 rfl trivial fun c₀ cs hu => ?_
  apply wpSIn_seq
  apply wpSIn_region
  simp [wpOpsSIn, go_sem, recoverD, hu, Tryd.ntmps74, Exit.thenS]
  refine wpSIn_of_wpIn rfl ?_
  simp only [List.size_toArray, List.length_cons, List.length_nil, Nat.reduceAdd, Nat.reduceSub, Array.replicate_succ, Array.replicate_zero, List.push_toArray, List.append_toArray, List.nil_append, List.cons_append, List.setIfInBounds_toArray, List.set_cons_zero]
  gi_wp2
  cases c₀
  simp_all [bodyPostS, results, Tryd.results74]
end Go.Proofs.YtnpaidieijlkkaaDoor
