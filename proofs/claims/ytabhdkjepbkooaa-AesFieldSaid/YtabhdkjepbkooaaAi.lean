/- aescore: double. -/
import Derived.Test.YtabhdkjepbkooaaBv
import Derived.Test.YtabhdkjepbkooaaMem
import Derived.Test.YtabhdkjepbkooaaHa
import Derived.Test.YtabhdkjepbkooaaBox
import Derived.Test.YtabhdkjepbkooaaAg
set_option linter.unusedVariables false
set_option linter.unusedSimpArgs false
namespace Go.Proofs.Ytabhdkjepbkooaa
open Go.RowKit

theorem dbl_eq : ∀ b : BitVec 8, bits .xor .u8 (i8 b * 2 % 256) (i8 b / 128 * 27) = i8 (dblV b) := by decide +kernel
set_option maxHeartbeats 1000000 in
theorem double_any (w : World) (b : BitVec 8) : Calls Try.prog 41 #[W8 b] w fun e w' => e = .returned (W8 (dblV b)) ∧ w = w' := by
  have hb := i8_lt b
  go_enter Try.func41, Try.ntmps41
  go_wp2
  go_ret
  refine ⟨?_, rfl⟩
  rw [show W8 (dblV b) = .int .u8 (i8 (dblV b)) from rfl, ← dbl_eq b]
  rfl
end Go.Proofs.Ytabhdkjepbkooaa
