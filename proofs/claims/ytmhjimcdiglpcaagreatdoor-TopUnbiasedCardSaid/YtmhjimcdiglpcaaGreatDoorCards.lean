/-
  DERIVED. GIVEN WITH THE SEED: THE CARDS: each row of YtmhjimcdiglpcaaGreatDoorRows.lean that lists a variable, with what it lists TIED to the program's text (the seventh form; the later family's looks); each row that meets fmt, with fmt's text TOLD by the authors' own Lean function (tested against real Go, not proved from fmt's source: count such statements apart). THE CARD IS WHAT COUNTS. Prove the row's statement (the work); the ties are given (YtmhjimcdiglpcaaGreatDoorTie.lean); close each card by the builder's one call (the guide's Derived/Test/ToyasCard.lean, 'card_holds'). Laid BY PROGRAM, IN A SANDBOX (cutbox-door.mjs). By AI agents, Wed Nov 11 2026. No macro, syntax, notation, axiom, sorry.
-/
import Derived.Test.YtmhjimcdiglpcaaGreatDoorRows
import GoSem.ClaimSeven
namespace Go.Proofs.YtmhjimcdiglpcaaGreatDoor
namespace Rows

/-- THE TIED CARD OF 'priceofficetop.TopUnbiased'. -/
def topUnbiasedCard : Claim7 := { stood := { row := topUnbiasedRow, standIns := [], harness := (true, "1a0c469bc1fd20147b72e54ed72520fc3d3944e95fe026c3f4586935dd077b34"), looks := false }, kinds := [], alts := [], laidByText := true, laidKinds := [.data, .data, .data], laidTests := true, laidLooks := .later }
def TopUnbiasedCardSaid : Prop := Claim7.holds Tryz.pinned (.plain (OpenSpec.ofChange topUnbiasedSpec)) topUnbiasedCard

/-- THE SECOND FORM's CARD OF 'priceofficetop.TopUnbiased'. -/
def topUnbiasedUptoCard : Claim7 := { stood := { row := topUnbiasedUptoRow, standIns := [], harness := (true, "1a0c469bc1fd20147b72e54ed72520fc3d3944e95fe026c3f4586935dd077b34"), looks := false }, kinds := [], alts := [], laidByText := true, laidKinds := [.data, .data, .data], laidTests := true, laidLooks := .later }
def TopUnbiasedUptoCardSaid : Prop := Claim7.holds Tryz.pinned (.plain (OpenSpec.upto topUnbiasedSpec)) topUnbiasedUptoCard
end Rows
end Go.Proofs.YtmhjimcdiglpcaaGreatDoor
