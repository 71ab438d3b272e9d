/- Unsigned numbers as bit vectors. -/
import Derived.Test.YtabhdkjepbkooaaMem
import Derived.Laws.BitsAll
set_option linter.unusedVariables false
namespace Go.Proofs.Ytabhdkjepbkooaa
open Go.RowKit

/-- the numbers, in words that simp leaves alone -/
def i8 (x : BitVec 8) : Int := (x.toNat : Int)
def i32 (x : BitVec 32) : Int := (x.toNat : Int)
def i64 (x : BitVec 64) : Int := (x.toNat : Int)
abbrev W8 (x : BitVec 8) : Value := .int .u8 (i8 x)
abbrev W32 (x : BitVec 32) : Value := .int .u32 (i32 x)
abbrev W64 (x : BitVec 64) : Value := .int .u64 (i64 x)

theorem b32_and (x y : BitVec 32) : bits .and .u32 (i32 x) (i32 y) = i32 (x &&& y) := by
  unfold i32; rw [u32_and_nat _ _ x.isLt y.isLt, BitVec.toNat_and]
theorem b32_or (x y : BitVec 32) : bits .or .u32 (i32 x) (i32 y) = i32 (x ||| y) := by
  unfold i32; rw [u32_or_nat _ _ x.isLt y.isLt, BitVec.toNat_or]
theorem b32_xor (x y : BitVec 32) : bits .xor .u32 (i32 x) (i32 y) = i32 (x ^^^ y) := by
  unfold i32; rw [u32_xor_nat _ _ x.isLt y.isLt, BitVec.toNat_xor]
theorem b32_not (x : BitVec 32) : bits .xor .u32 IntKind.u32.max (i32 x) = i32 (~~~x) := by
  have h : IntKind.u32.max = i32 (BitVec.allOnes 32) := by decide
  rw [h, b32_xor, BitVec.allOnes_xor]
theorem b32_add' (x y : BitVec 32) : (i32 x + i32 y) % 4294967296 = i32 (x + y) := by
  unfold i32; rw [BitVec.toNat_add]; omega
theorem b32_add (x y : BitVec 32) : IntKind.u32.wrap (i32 x + i32 y) = i32 (x + y) := by rw [IntKind.wrap_u32', b32_add']
theorem b32_shl' (x : BitVec 32) (s : Nat) : i32 x * 2 ^ s % 4294967296 = i32 (x <<< s) := by
  unfold i32; rw [BitVec.toNat_shiftLeft, Nat.shiftLeft_eq]; simp
theorem b32_shl (x : BitVec 32) (s : Nat) : IntKind.u32.wrap (i32 x * 2 ^ s) = i32 (x <<< s) := by rw [IntKind.wrap_u32', b32_shl']
theorem b32_shr (x : BitVec 32) (s : Nat) : i32 x / 2 ^ s = i32 (x >>> s) := by
  unfold i32; rw [BitVec.toNat_ushiftRight, Nat.shiftRight_eq_div_pow]; simp
theorem b64_and (x y : BitVec 64) : bits .and .u64 (i64 x) (i64 y) = i64 (x &&& y) := by
  unfold i64; rw [u64_and_nat _ _ x.isLt y.isLt, BitVec.toNat_and]
theorem b64_or (x y : BitVec 64) : bits .or .u64 (i64 x) (i64 y) = i64 (x ||| y) := by
  unfold i64; rw [u64_or_nat _ _ x.isLt y.isLt, BitVec.toNat_or]
theorem b64_xor (x y : BitVec 64) : bits .xor .u64 (i64 x) (i64 y) = i64 (x ^^^ y) := by
  unfold i64; rw [u64_xor_nat _ _ x.isLt y.isLt, BitVec.toNat_xor]
theorem b64_not (x : BitVec 64) : bits .xor .u64 IntKind.u64.max (i64 x) = i64 (~~~x) := by
  have h : IntKind.u64.max = i64 (BitVec.allOnes 64) := by decide
  rw [h, b64_xor, BitVec.allOnes_xor]
theorem b64_add (x y : BitVec 64) : IntKind.u64.wrap (i64 x + i64 y) = i64 (x + y) := by
  unfold i64; rw [IntKind.wrap_u64, BitVec.toNat_add]; omega
theorem b64_shl (x : BitVec 64) (s : Nat) : IntKind.u64.wrap (i64 x * 2 ^ s) = i64 (x <<< s) := by
  unfold i64; rw [IntKind.wrap_u64, BitVec.toNat_shiftLeft, Nat.shiftLeft_eq]; simp
theorem b64_shr (x : BitVec 64) (s : Nat) : i64 x / 2 ^ s = i64 (x >>> s) := by
  unfold i64; rw [BitVec.toNat_ushiftRight, Nat.shiftRight_eq_div_pow]; simp
theorem b8_xor (x y : BitVec 8) : bits .xor .u8 (i8 x) (i8 y) = i8 (x ^^^ y) := by
  unfold i8; rw [u8_xor_nat _ _ x.isLt y.isLt, BitVec.toNat_xor]
/-- conversions -/
theorem c8_32 (x : BitVec 8) : IntKind.u32.wrap (i8 x) = i32 (x.setWidth 32) := by
  unfold i8 i32; rw [IntKind.wrap_u32', BitVec.toNat_setWidth]; simp
theorem c8_32' (x : BitVec 8) : i8 x % 4294967296 = i32 (x.setWidth 32) := by rw [← c8_32, IntKind.wrap_u32']
theorem c8_32'' (x : BitVec 8) : i8 x = i32 (x.setWidth 32) := by
  unfold i8 i32; rw [BitVec.toNat_setWidth]; have := x.isLt; omega
theorem c8_64 (x : BitVec 8) : IntKind.u64.wrap (i8 x) = i64 (x.setWidth 64) := by
  unfold i8 i64; rw [IntKind.wrap_u64, BitVec.toNat_setWidth]; simp
theorem c8_64'' (x : BitVec 8) : i8 x = i64 (x.setWidth 64) := by
  unfold i8 i64; rw [BitVec.toNat_setWidth]; have := x.isLt; omega
theorem c64_32 (x : BitVec 64) : IntKind.u32.wrap (i64 x) = i32 (x.setWidth 32) := by
  unfold i32 i64; rw [IntKind.wrap_u32', BitVec.toNat_setWidth]; simp
theorem c64_32' (x : BitVec 64) : i64 x % 4294967296 = i32 (x.setWidth 32) := by rw [← c64_32, IntKind.wrap_u32']
theorem c32_64 (x : BitVec 32) : IntKind.u64.wrap (i32 x) = i64 (x.setWidth 64) := by
  unfold i32 i64; rw [IntKind.wrap_u64, BitVec.toNat_setWidth]; simp
theorem c32_64'' (x : BitVec 32) : i32 x = i64 (x.setWidth 64) := by
  unfold i32 i64; rw [BitVec.toNat_setWidth]; have := x.isLt; omega
theorem c64_8 (x : BitVec 64) : IntKind.u8.wrap (i64 x) = i8 (x.setWidth 8) := by
  unfold i8 i64; rw [IntKind.wrap_u8', BitVec.toNat_setWidth]; simp
theorem c64_8' (x : BitVec 64) : i64 x % 256 = i8 (x.setWidth 8) := by rw [← c64_8, IntKind.wrap_u8']
theorem c32_8' (x : BitVec 32) : i32 x % 256 = i8 (x.setWidth 8) := by
  unfold i8 i32; rw [BitVec.toNat_setWidth]; simp
theorem i8_lt (x : BitVec 8) : 0 ≤ i8 x ∧ i8 x < 256 := by unfold i8; have := x.isLt; omega
theorem i32_lt (x : BitVec 32) : 0 ≤ i32 x ∧ i32 x < 4294967296 := by unfold i32; have := x.isLt; omega
theorem i64_lt (x : BitVec 64) : 0 ≤ i64 x ∧ i64 x < 18446744073709551616 := by unfold i64; have := x.isLt; omega

/-- turned to the left -/
def rl32 (s : Nat) (x : BitVec 32) : BitVec 32 := x <<< s ||| x >>> (32 - s)
def rl64 (s : Nat) (x : BitVec 64) : BitVec 64 := x <<< s ||| x >>> (64 - s)
end Go.Proofs.Ytabhdkjepbkooaa
