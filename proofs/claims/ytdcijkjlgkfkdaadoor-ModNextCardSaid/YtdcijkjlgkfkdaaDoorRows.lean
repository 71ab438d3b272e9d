/-
  NARROWER THAN 'FOR EVERY INPUT', by the rows' own cells (each row's printed sentence says how): ModPowers: laid · ModInverse: laid · ModBig: laid · ModStrong: laid · ModNext: laid.
  DERIVED. THE GIVEN ROWS OF THIS SEAT. 5 by the template 'for every input the law returns true; each argument reads behind the call as it read before'; 0 by the template 'total and deterministic' (their statements: YtdcijkjlgkfkdaaDoorTotals.lean).
  GIVEN WITH THE SEED: the statements are not yours to turn. If you find one false, say at which input.
  Laid BY PROGRAM, IN A SANDBOX (cutbox-rows.mjs): the forced cells as the released guide's own fill.sh prints them over the translation 763ae7849bcd1672… (all of the seat's roots in one cut). By AI agents, Wed Nov 11 2026. No macro, syntax, notation, axiom, sorry.
-/
import Derived.Test.YtdcijkjlgkfkdaaDoorChecked
import GoSem.Claim
import GoSem.ClaimJoined
import GoSem.ClaimMapViews
import Derived.JoinedTies
import Derived.KernelRfl
namespace Go.Proofs.YtdcijkjlgkfkdaaDoor
/- THE CELL 'sum', in the pinned program and in every row, IS THE sha256 OF THE DUMP (.gsa) THAT YtdcijkjlgkfkdaaDoorProg.lean LOADS. Nothing in Lean hashes anything: it is a label: what it is worth is what the hold of that sum in a sandbox is worth. -/
noncomputable def Tryd.pinned : Pinned := { name := "ytdcijkjlgkfkdaadoor", sum := "763ae7849bcd1672e4a736b70fdc63a4b3f283a5070e88f81f7e6f24144df8dc", checked := Tryd.checked }
namespace Rows
def none {H : Type} : Left H := { results := [], args := [] }

/- WHAT THE LISTED PACKAGE-LEVEL VARIABLES READ AS WHEN THE CALL BEGINS. Each datum BY PROGRAM (the guide's laid-datum.mjs) off the statement by which the dump's own 'gosem.cut.vars' lays the variable. In a bare row this is a premise. The card (YtdcijkjlgkfkdaaDoorCards.lean) ties it to the program's text. -/
def laid_bailey_modarith_few {H : Type} : DataW H := .agg [.lit (.int .u64 2), .lit (.int .u64 3), .lit (.int .u64 5), .lit (.int .u64 7), .lit (.int .u64 11), .lit (.int .u64 13), .lit (.int .u64 17), .lit (.int .u64 19), .lit (.int .u64 23), .lit (.int .u64 29), .lit (.int .u64 31), .lit (.int .u64 37)]

/-- 'baileylaw2.ModPowers': WHATEVER THE INPUT: true; the input reads as it did. -/
def modPowersSpec : ChangeSpec := { name := "modPowers", fn := fun _ => fun
  | [d1, d2, d3] => { results := [.lit (.bool true)], args := [d1, d2, d3] }
  | _ => none }
def modPowersRow : OpenClaim := { program := "ytdcijkjlgkfkdaadoor", sum := "763ae7849bcd1672e4a736b70fdc63a4b3f283a5070e88f81f7e6f24144df8dc", func := "bailey/baileylaw2.ModPowers", spec := "modPowers", inPlace := ["math/bits.Add64", "math/bits.Sub64"], unfollowed := true, recurses := true, named := ["math/bits.divideError", "math/bits.overflowError", "bailey/modarith.few"], apart := false, laid := [("bailey/modarith.few", laid_bailey_modarith_few)] }
def ModPowersSaid : Prop := modPowersRow.holds Tryd.pinned (OpenSpec.ofChange modPowersSpec)

/-- ITS FALSE NEIGHBOUR: 'it returns false'. Refute it at one input. -/
def modPowersWrong : ChangeSpec := { name := "modPowers", fn := fun _ => fun
  | [d1, d2, d3] => { results := [.lit (.bool false)], args := [d1, d2, d3] }
  | _ => none }
def ModPowersWrongFalsely : Prop := modPowersRow.holds Tryd.pinned (OpenSpec.ofChange modPowersWrong)

/-- 'baileylaw2.ModInverse': WHATEVER THE INPUT: true; the input reads as it did. -/
def modInverseSpec : ChangeSpec := { name := "modInverse", fn := fun _ => fun
  | [d1, d2] => { results := [.lit (.bool true)], args := [d1, d2] }
  | _ => none }
def modInverseRow : OpenClaim := { program := "ytdcijkjlgkfkdaadoor", sum := "763ae7849bcd1672e4a736b70fdc63a4b3f283a5070e88f81f7e6f24144df8dc", func := "bailey/baileylaw2.ModInverse", spec := "modInverse", inPlace := ["math/bits.Add64", "math/bits.Sub64"], unfollowed := true, recurses := true, named := ["math/bits.divideError", "math/bits.overflowError", "bailey/modarith.few"], apart := false, laid := [("bailey/modarith.few", laid_bailey_modarith_few)] }
def ModInverseSaid : Prop := modInverseRow.holds Tryd.pinned (OpenSpec.ofChange modInverseSpec)

/-- ITS FALSE NEIGHBOUR: 'it returns false'. Refute it at one input. -/
def modInverseWrong : ChangeSpec := { name := "modInverse", fn := fun _ => fun
  | [d1, d2] => { results := [.lit (.bool false)], args := [d1, d2] }
  | _ => none }
def ModInverseWrongFalsely : Prop := modInverseRow.holds Tryd.pinned (OpenSpec.ofChange modInverseWrong)

/-- 'baileylaw2.ModBig': WHATEVER THE INPUT: true; the input reads as it did. -/
def modBigSpec : ChangeSpec := { name := "modBig", fn := fun _ => fun
  | [d] => { results := [.lit (.bool true)], args := [d] }
  | _ => none }
def modBigRow : OpenClaim := { program := "ytdcijkjlgkfkdaadoor", sum := "763ae7849bcd1672e4a736b70fdc63a4b3f283a5070e88f81f7e6f24144df8dc", func := "bailey/baileylaw2.ModBig", spec := "modBig", inPlace := ["math/bits.Add64", "math/bits.Sub64"], unfollowed := true, recurses := true, named := ["math/bits.divideError", "math/bits.overflowError", "bailey/modarith.few"], apart := false, laid := [("bailey/modarith.few", laid_bailey_modarith_few)] }
def ModBigSaid : Prop := modBigRow.holds Tryd.pinned (OpenSpec.ofChange modBigSpec)

/-- ITS FALSE NEIGHBOUR: 'it returns false'. Refute it at one input. -/
def modBigWrong : ChangeSpec := { name := "modBig", fn := fun _ => fun
  | [d] => { results := [.lit (.bool false)], args := [d] }
  | _ => none }
def ModBigWrongFalsely : Prop := modBigRow.holds Tryd.pinned (OpenSpec.ofChange modBigWrong)

/-- 'baileylaw2.ModStrong': WHATEVER THE INPUT: true; the input reads as it did. -/
def modStrongSpec : ChangeSpec := { name := "modStrong", fn := fun _ => fun
  | [d1, d2] => { results := [.lit (.bool true)], args := [d1, d2] }
  | _ => none }
def modStrongRow : OpenClaim := { program := "ytdcijkjlgkfkdaadoor", sum := "763ae7849bcd1672e4a736b70fdc63a4b3f283a5070e88f81f7e6f24144df8dc", func := "bailey/baileylaw2.ModStrong", spec := "modStrong", inPlace := ["math/bits.Add64", "math/bits.Sub64"], unfollowed := true, recurses := true, named := ["math/bits.divideError", "math/bits.overflowError", "bailey/modarith.few"], apart := false, laid := [("bailey/modarith.few", laid_bailey_modarith_few)] }
def ModStrongSaid : Prop := modStrongRow.holds Tryd.pinned (OpenSpec.ofChange modStrongSpec)

/-- ITS FALSE NEIGHBOUR: 'it returns false'. Refute it at one input. -/
def modStrongWrong : ChangeSpec := { name := "modStrong", fn := fun _ => fun
  | [d1, d2] => { results := [.lit (.bool false)], args := [d1, d2] }
  | _ => none }
def ModStrongWrongFalsely : Prop := modStrongRow.holds Tryd.pinned (OpenSpec.ofChange modStrongWrong)

/-- 'baileylaw2.ModNext': WHATEVER THE INPUT: true; the input reads as it did. -/
def modNextSpec : ChangeSpec := { name := "modNext", fn := fun _ => fun
  | [d1, d2] => { results := [.lit (.bool true)], args := [d1, d2] }
  | _ => none }
def modNextRow : OpenClaim := { program := "ytdcijkjlgkfkdaadoor", sum := "763ae7849bcd1672e4a736b70fdc63a4b3f283a5070e88f81f7e6f24144df8dc", func := "bailey/baileylaw2.ModNext", spec := "modNext", inPlace := ["math/bits.Add64", "math/bits.Sub64"], unfollowed := true, recurses := true, named := ["math/bits.divideError", "math/bits.overflowError", "bailey/modarith.few"], apart := false, laid := [("bailey/modarith.few", laid_bailey_modarith_few)] }
def ModNextSaid : Prop := modNextRow.holds Tryd.pinned (OpenSpec.ofChange modNextSpec)

/-- ITS FALSE NEIGHBOUR: 'it returns false'. Refute it at one input. -/
def modNextWrong : ChangeSpec := { name := "modNext", fn := fun _ => fun
  | [d1, d2] => { results := [.lit (.bool false)], args := [d1, d2] }
  | _ => none }
def ModNextWrongFalsely : Prop := modNextRow.holds Tryd.pinned (OpenSpec.ofChange modNextWrong)

/- THE SECOND FORM. 'bulk': how many values and letters a reading holds, each counted each time it is reached (what is shared counts as often as it is met; a slice's spare places count too). A statement '..UptoSaid' is the law's where the arguments, and the package variables that the reading takes, are together of bulk at most 1048576: NARROWER than '..Said'. Prove '..Said' where nothing that the law and all that it calls make is longer than what came in: it says more and counts as full. Else prove '..UptoSaid'. A law counts once. -/
mutual
def uptoBulk {H : Type} : DataW H → Nat
  | .lit (.string bytes) => bytes.length + 1
  | .lit _ => 1
  | .nil => 1
  | .ptr d => uptoBulk d + 1
  | .slice elems spare => uptoBulkAll elems + uptoBulkAll spare + 1
  | .agg parts => uptoBulkAll parts + 1
  | .iface _ d => uptoBulk d + 1
  | .map entries => uptoBulkEntries entries + 1
  | .held _ => 1
def uptoBulkAll {H : Type} : List (DataW H) → Nat
  | [] => 0
  | d :: r => uptoBulk d + uptoBulkAll r
def uptoBulkEntries {H : Type} : List (Lit × DataW H) → Nat
  | [] => 0
  | x :: r => uptoBulkEntry x + uptoBulkEntries r
def uptoBulkEntry {H : Type} : Lit × DataW H → Nat
  | (.string bytes, d) => bytes.length + uptoBulk d + 1
  | (_, d) => uptoBulk d + 1
 end
def uptoSmall : (H : Type) → List (DataW H) → Bool := fun _ ds => decide (uptoBulkAll ds ≤ 1048576)
def OpenSpec.upto (s : _root_.Go.ChangeSpec) : _root_.Go.OpenSpec := { _root_.Go.OpenSpec.ofChange s with cond := some uptoSmall }

/-- 'baileylaw2.ModPowers', WHERE WHAT IT READS IS OF BULK AT MOST 1048576: true; the input reads as it did. -/
def modPowersUptoRow : OpenClaim := { program := "ytdcijkjlgkfkdaadoor", sum := "763ae7849bcd1672e4a736b70fdc63a4b3f283a5070e88f81f7e6f24144df8dc", func := "bailey/baileylaw2.ModPowers", spec := "modPowers", inPlace := ["math/bits.Add64", "math/bits.Sub64"], unfollowed := true, recurses := true, named := ["math/bits.divideError", "math/bits.overflowError", "bailey/modarith.few"], apart := false, laid := [("bailey/modarith.few", laid_bailey_modarith_few)], narrowed := true }
def ModPowersUptoSaid : Prop := modPowersUptoRow.holds Tryd.pinned (OpenSpec.upto modPowersSpec)

/-- 'baileylaw2.ModInverse', WHERE WHAT IT READS IS OF BULK AT MOST 1048576: true; the input reads as it did. -/
def modInverseUptoRow : OpenClaim := { program := "ytdcijkjlgkfkdaadoor", sum := "763ae7849bcd1672e4a736b70fdc63a4b3f283a5070e88f81f7e6f24144df8dc", func := "bailey/baileylaw2.ModInverse", spec := "modInverse", inPlace := ["math/bits.Add64", "math/bits.Sub64"], unfollowed := true, recurses := true, named := ["math/bits.divideError", "math/bits.overflowError", "bailey/modarith.few"], apart := false, laid := [("bailey/modarith.few", laid_bailey_modarith_few)], narrowed := true }
def ModInverseUptoSaid : Prop := modInverseUptoRow.holds Tryd.pinned (OpenSpec.upto modInverseSpec)

/-- 'baileylaw2.ModBig', WHERE WHAT IT READS IS OF BULK AT MOST 1048576: true; the input reads as it did. -/
def modBigUptoRow : OpenClaim := { program := "ytdcijkjlgkfkdaadoor", sum := "763ae7849bcd1672e4a736b70fdc63a4b3f283a5070e88f81f7e6f24144df8dc", func := "bailey/baileylaw2.ModBig", spec := "modBig", inPlace := ["math/bits.Add64", "math/bits.Sub64"], unfollowed := true, recurses := true, named := ["math/bits.divideError", "math/bits.overflowError", "bailey/modarith.few"], apart := false, laid := [("bailey/modarith.few", laid_bailey_modarith_few)], narrowed := true }
def ModBigUptoSaid : Prop := modBigUptoRow.holds Tryd.pinned (OpenSpec.upto modBigSpec)

/-- 'baileylaw2.ModStrong', WHERE WHAT IT READS IS OF BULK AT MOST 1048576: true; the input reads as it did. -/
def modStrongUptoRow : OpenClaim := { program := "ytdcijkjlgkfkdaadoor", sum := "763ae7849bcd1672e4a736b70fdc63a4b3f283a5070e88f81f7e6f24144df8dc", func := "bailey/baileylaw2.ModStrong", spec := "modStrong", inPlace := ["math/bits.Add64", "math/bits.Sub64"], unfollowed := true, recurses := true, named := ["math/bits.divideError", "math/bits.overflowError", "bailey/modarith.few"], apart := false, laid := [("bailey/modarith.few", laid_bailey_modarith_few)], narrowed := true }
def ModStrongUptoSaid : Prop := modStrongUptoRow.holds Tryd.pinned (OpenSpec.upto modStrongSpec)

/-- 'baileylaw2.ModNext', WHERE WHAT IT READS IS OF BULK AT MOST 1048576: true; the input reads as it did. -/
def modNextUptoRow : OpenClaim := { program := "ytdcijkjlgkfkdaadoor", sum := "763ae7849bcd1672e4a736b70fdc63a4b3f283a5070e88f81f7e6f24144df8dc", func := "bailey/baileylaw2.ModNext", spec := "modNext", inPlace := ["math/bits.Add64", "math/bits.Sub64"], unfollowed := true, recurses := true, named := ["math/bits.divideError", "math/bits.overflowError", "bailey/modarith.few"], apart := false, laid := [("bailey/modarith.few", laid_bailey_modarith_few)], narrowed := true }
def ModNextUptoSaid : Prop := modNextUptoRow.holds Tryd.pinned (OpenSpec.upto modNextSpec)

end Rows
end Go.Proofs.YtdcijkjlgkfkdaaDoor
