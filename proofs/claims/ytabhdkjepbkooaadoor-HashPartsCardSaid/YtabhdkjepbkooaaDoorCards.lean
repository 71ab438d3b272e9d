/-
  DERIVED. GIVEN WITH THE SEED: THE CARDS: each row of YtabhdkjepbkooaaDoorRows.lean that lists a variable, with what it lists TIED to the program's text (the seventh form; the later family's looks); each row that meets fmt, with fmt's text TOLD by the authors' own Lean function (tested against real Go, not proved from fmt's source: count such statements apart). THE CARD IS WHAT COUNTS. Prove the row's statement (the work); the ties are given (YtabhdkjepbkooaaDoorTie.lean); close each card by the builder's one call (the guide's Derived/Test/ToyasCard.lean, 'card_holds'). Laid BY PROGRAM, IN A SANDBOX (cutbox-door.mjs). By AI agents, Wed Nov 11 2026. No macro, syntax, notation, axiom, sorry.
-/
import Derived.Test.YtabhdkjepbkooaaDoorRows
import GoSem.ClaimSeven
namespace Go.Proofs.YtabhdkjepbkooaaDoor
namespace Rows

/-- THE TIED CARD OF 'baileylaw3.HashParts'. -/
def hashPartsCard : Claim7 := { stood := { row := hashPartsRow, standIns := [], harness := (true, "4a1fbeda1cfc390fab5ae4e4d02e30c6f4cca75e1d7dacd9cfbe9482ebdb1100"), looks := false }, kinds := [], alts := [], laidByText := true, laidKinds := [.data, .data], laidTests := true, laidLooks := .later }
def HashPartsCardSaid : Prop := Claim7.holds Tryd.pinned (.plain (OpenSpec.ofChange hashPartsSpec)) hashPartsCard

/-- THE TIED CARD OF 'baileylaw4.DrbgIter'. -/
def drbgIterCard : Claim7 := { stood := { row := drbgIterRow, standIns := [], harness := (true, "4a1fbeda1cfc390fab5ae4e4d02e30c6f4cca75e1d7dacd9cfbe9482ebdb1100"), looks := false }, kinds := [], alts := [], laidByText := true, laidKinds := [.data, .data], laidTests := true, laidLooks := .later }
def DrbgIterCardSaid : Prop := Claim7.holds Tryd.pinned (.plain (OpenSpec.ofChange drbgIterSpec)) drbgIterCard

/-- THE SECOND FORM's CARD OF 'baileylaw3.HashParts'. -/
def hashPartsUptoCard : Claim7 := { stood := { row := hashPartsUptoRow, standIns := [], harness := (true, "4a1fbeda1cfc390fab5ae4e4d02e30c6f4cca75e1d7dacd9cfbe9482ebdb1100"), looks := false }, kinds := [], alts := [], laidByText := true, laidKinds := [.data, .data], laidTests := true, laidLooks := .later }
def HashPartsUptoCardSaid : Prop := Claim7.holds Tryd.pinned (.plain (OpenSpec.upto hashPartsSpec)) hashPartsUptoCard

/-- THE SECOND FORM's CARD OF 'baileylaw4.DrbgIter'. -/
def drbgIterUptoCard : Claim7 := { stood := { row := drbgIterUptoRow, standIns := [], harness := (true, "4a1fbeda1cfc390fab5ae4e4d02e30c6f4cca75e1d7dacd9cfbe9482ebdb1100"), looks := false }, kinds := [], alts := [], laidByText := true, laidKinds := [.data, .data], laidTests := true, laidLooks := .later }
def DrbgIterUptoCardSaid : Prop := Claim7.holds Tryd.pinned (.plain (OpenSpec.upto drbgIterSpec)) drbgIterUptoCard
end Rows
end Go.Proofs.YtabhdkjepbkooaaDoor
