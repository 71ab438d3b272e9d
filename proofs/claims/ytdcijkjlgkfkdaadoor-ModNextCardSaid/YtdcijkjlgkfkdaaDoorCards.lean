/-
  DERIVED. GIVEN WITH THE SEED: THE CARDS: each row of YtdcijkjlgkfkdaaDoorRows.lean that lists a variable, with what it lists TIED to the program's text (the seventh form; the later family's looks); each row that meets fmt, with fmt's text TOLD by the authors' own Lean function (tested against real Go, not proved from fmt's source: count such statements apart). THE CARD IS WHAT COUNTS. Prove the row's statement (the work); the ties are given (YtdcijkjlgkfkdaaDoorTie.lean); close each card by the builder's one call (the guide's Derived/Test/ToyasCard.lean, 'card_holds'). Laid BY PROGRAM, IN A SANDBOX (cutbox-door.mjs). By AI agents, Wed Nov 11 2026. No macro, syntax, notation, axiom, sorry.
-/
import Derived.Test.YtdcijkjlgkfkdaaDoorRows
import GoSem.ClaimSeven
namespace Go.Proofs.YtdcijkjlgkfkdaaDoor
namespace Rows

/-- THE TIED CARD OF 'baileylaw2.ModPowers'. -/
def modPowersCard : Claim7 := { stood := { row := modPowersRow, standIns := [], harness := (true, "ed98dbdb3964d5359a9cd6e01d8b8c870f35f4695f6db250da8a24e679c45227"), looks := false }, kinds := [], alts := [], laidByText := true, laidKinds := [.data], laidTests := true, laidLooks := .later }
def ModPowersCardSaid : Prop := Claim7.holds Tryd.pinned (.plain (OpenSpec.ofChange modPowersSpec)) modPowersCard

/-- THE TIED CARD OF 'baileylaw2.ModInverse'. -/
def modInverseCard : Claim7 := { stood := { row := modInverseRow, standIns := [], harness := (true, "ed98dbdb3964d5359a9cd6e01d8b8c870f35f4695f6db250da8a24e679c45227"), looks := false }, kinds := [], alts := [], laidByText := true, laidKinds := [.data], laidTests := true, laidLooks := .later }
def ModInverseCardSaid : Prop := Claim7.holds Tryd.pinned (.plain (OpenSpec.ofChange modInverseSpec)) modInverseCard

/-- THE TIED CARD OF 'baileylaw2.ModBig'. -/
def modBigCard : Claim7 := { stood := { row := modBigRow, standIns := [], harness := (true, "ed98dbdb3964d5359a9cd6e01d8b8c870f35f4695f6db250da8a24e679c45227"), looks := false }, kinds := [], alts := [], laidByText := true, laidKinds := [.data], laidTests := true, laidLooks := .later }
def ModBigCardSaid : Prop := Claim7.holds Tryd.pinned (.plain (OpenSpec.ofChange modBigSpec)) modBigCard

/-- THE TIED CARD OF 'baileylaw2.ModStrong'. -/
def modStrongCard : Claim7 := { stood := { row := modStrongRow, standIns := [], harness := (true, "ed98dbdb3964d5359a9cd6e01d8b8c870f35f4695f6db250da8a24e679c45227"), looks := false }, kinds := [], alts := [], laidByText := true, laidKinds := [.data], laidTests := true, laidLooks := .later }
def ModStrongCardSaid : Prop := Claim7.holds Tryd.pinned (.plain (OpenSpec.ofChange modStrongSpec)) modStrongCard

/-- THE TIED CARD OF 'baileylaw2.ModNext'. -/
def modNextCard : Claim7 := { stood := { row := modNextRow, standIns := [], harness := (true, "ed98dbdb3964d5359a9cd6e01d8b8c870f35f4695f6db250da8a24e679c45227"), looks := false }, kinds := [], alts := [], laidByText := true, laidKinds := [.data], laidTests := true, laidLooks := .later }
def ModNextCardSaid : Prop := Claim7.holds Tryd.pinned (.plain (OpenSpec.ofChange modNextSpec)) modNextCard

/-- THE SECOND FORM's CARD OF 'baileylaw2.ModPowers'. -/
def modPowersUptoCard : Claim7 := { stood := { row := modPowersUptoRow, standIns := [], harness := (true, "ed98dbdb3964d5359a9cd6e01d8b8c870f35f4695f6db250da8a24e679c45227"), looks := false }, kinds := [], alts := [], laidByText := true, laidKinds := [.data], laidTests := true, laidLooks := .later }
def ModPowersUptoCardSaid : Prop := Claim7.holds Tryd.pinned (.plain (OpenSpec.upto modPowersSpec)) modPowersUptoCard

/-- THE SECOND FORM's CARD OF 'baileylaw2.ModInverse'. -/
def modInverseUptoCard : Claim7 := { stood := { row := modInverseUptoRow, standIns := [], harness := (true, "ed98dbdb3964d5359a9cd6e01d8b8c870f35f4695f6db250da8a24e679c45227"), looks := false }, kinds := [], alts := [], laidByText := true, laidKinds := [.data], laidTests := true, laidLooks := .later }
def ModInverseUptoCardSaid : Prop := Claim7.holds Tryd.pinned (.plain (OpenSpec.upto modInverseSpec)) modInverseUptoCard

/-- THE SECOND FORM's CARD OF 'baileylaw2.ModBig'. -/
def modBigUptoCard : Claim7 := { stood := { row := modBigUptoRow, standIns := [], harness := (true, "ed98dbdb3964d5359a9cd6e01d8b8c870f35f4695f6db250da8a24e679c45227"), looks := false }, kinds := [], alts := [], laidByText := true, laidKinds := [.data], laidTests := true, laidLooks := .later }
def ModBigUptoCardSaid : Prop := Claim7.holds Tryd.pinned (.plain (OpenSpec.upto modBigSpec)) modBigUptoCard

/-- THE SECOND FORM's CARD OF 'baileylaw2.ModStrong'. -/
def modStrongUptoCard : Claim7 := { stood := { row := modStrongUptoRow, standIns := [], harness := (true, "ed98dbdb3964d5359a9cd6e01d8b8c870f35f4695f6db250da8a24e679c45227"), looks := false }, kinds := [], alts := [], laidByText := true, laidKinds := [.data], laidTests := true, laidLooks := .later }
def ModStrongUptoCardSaid : Prop := Claim7.holds Tryd.pinned (.plain (OpenSpec.upto modStrongSpec)) modStrongUptoCard

/-- THE SECOND FORM's CARD OF 'baileylaw2.ModNext'. -/
def modNextUptoCard : Claim7 := { stood := { row := modNextUptoRow, standIns := [], harness := (true, "ed98dbdb3964d5359a9cd6e01d8b8c870f35f4695f6db250da8a24e679c45227"), looks := false }, kinds := [], alts := [], laidByText := true, laidKinds := [.data], laidTests := true, laidLooks := .later }
def ModNextUptoCardSaid : Prop := Claim7.holds Tryd.pinned (.plain (OpenSpec.upto modNextSpec)) modNextUptoCard
end Rows
end Go.Proofs.YtdcijkjlgkfkdaaDoor
