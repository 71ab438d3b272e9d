/- The zeros of an array of 256 bytes, where the loader does not name them. -/
import Derived.Test.YtabhdkjepbkooaaMem
set_option linter.unusedVariables false
set_option linter.unusedSimpArgs false
namespace Go.Proofs.Ytabhdkjepbkooaa
open Go.RowKit

def Try.zeroCells47 : Array Value := --LG2
  (List.replicate 256 (Value.int .u8 0)).toArray
theorem Try.zeroValue47 (w : World) : --LG2
    (zeroValue 47).run Try.prog w = .ok (.agg Try.zeroCells47) w := by kernel_rfl
theorem Try.zeroCells47_size : --LG2
    Try.zeroCells47.size = 256 := by kernel_rfl
theorem Try.zeroCells47_ne : --LG2
    Try.zeroCells47 ≠ #[] := by intro h; have := congrArg Array.size h; rw [Try.zeroCells47_size] at this; cases this
end Go.Proofs.Ytabhdkjepbkooaa
