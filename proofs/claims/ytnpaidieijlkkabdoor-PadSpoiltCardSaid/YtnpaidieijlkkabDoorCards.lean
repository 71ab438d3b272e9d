/-
  DERIVED. GIVEN WITH THE SEED: THE CARDS: each row of YtnpaidieijlkkabDoorRows.lean that lists a variable, with what it lists TIED to the program's text (the seventh form; the later family's looks); each row that meets fmt, with fmt's text TOLD by the authors' own Lean function (tested against real Go, not proved from fmt's source: count such statements apart). THE CARD IS WHAT COUNTS. Prove the row's statement (the work); the ties are given (YtnpaidieijlkkabDoorTie.lean); close each card by the builder's one call (the guide's Derived/Test/ToyasCard.lean, 'card_holds'). Laid BY PROGRAM, IN A SANDBOX (cutbox-door.mjs). By AI agents, Wed Nov 11 2026. No macro, syntax, notation, axiom, sorry.
-/
import Derived.Test.YtnpaidieijlkkabDoorRows
import GoSem.ClaimSeven
namespace Go.Proofs.YtnpaidieijlkkabDoor
namespace Rows

/-- THE TIED CARD OF 'baileylaw8.PadSpoilt'. -/
def padSpoiltCard : Claim7 := { stood := { row := padSpoiltRow, standIns := [], harness := (true, "4a8426c2a9a80edc77eb20c40120e9cf4a7d5aceb03c6e5594d46aea3b23b59f"), looks := false }, kinds := [], alts := [], laidByText := true, laidKinds := [.data, .data, .data, .pinned], laidTests := true, laidLooks := .later }
def PadSpoiltCardSaid : Prop := Claim7.holds Tryd.pinned (.plain (OpenSpec.ofChange padSpoiltSpec)) padSpoiltCard

/-- THE SECOND FORM's CARD OF 'baileylaw8.PadSpoilt'. -/
def padSpoiltUptoCard : Claim7 := { stood := { row := padSpoiltUptoRow, standIns := [], harness := (true, "4a8426c2a9a80edc77eb20c40120e9cf4a7d5aceb03c6e5594d46aea3b23b59f"), looks := false }, kinds := [], alts := [], laidByText := true, laidKinds := [.data, .data, .data, .pinned], laidTests := true, laidLooks := .later }
def PadSpoiltUptoCardSaid : Prop := Claim7.holds Tryd.pinned (.plain (OpenSpec.upto padSpoiltSpec)) padSpoiltUptoCard
end Rows
end Go.Proofs.YtnpaidieijlkkabDoor
