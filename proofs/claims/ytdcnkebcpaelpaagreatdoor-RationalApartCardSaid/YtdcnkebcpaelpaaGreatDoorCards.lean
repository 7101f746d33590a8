/-
  DERIVED. GIVEN WITH THE SEED: THE CARDS: each row of YtdcnkebcpaelpaaGreatDoorRows.lean that lists a variable, with what it lists TIED to the program's text (the seventh form; the later family's looks); each row that meets fmt, with fmt's text TOLD by the authors' own Lean function (tested against real Go, not proved from fmt's source: count such statements apart). THE CARD IS WHAT COUNTS. Prove the row's statement (the work); the ties are given (YtdcnkebcpaelpaaGreatDoorTie.lean); close each card by the builder's one call (the guide's Derived/Test/ToyasCard.lean, 'card_holds'). Laid BY PROGRAM, IN A SANDBOX (cutbox-door.mjs). By AI agents, Wed Nov 11 2026. No macro, syntax, notation, axiom, sorry.
-/
import Derived.Test.YtdcnkebcpaelpaaGreatDoorRows
import GoSem.ClaimSeven
namespace Go.Proofs.YtdcnkebcpaelpaaGreatDoor
namespace Rows

/-- THE TIED CARD OF 'priceofficelaw02.RationalApart'. -/
def rationalApartCard : Claim7 := { stood := { row := rationalApartRow, standIns := [], harness := (true, "8f275936f1e303f82e274364fe29483d1002d4addc950fd5f1a8ca0b86b6346e"), looks := false }, kinds := [], alts := [], laidByText := true, laidKinds := [.data, .data, .data], laidTests := true, laidLooks := .later }
def RationalApartCardSaid : Prop := Claim7.holds Tryz.pinned (.plain (OpenSpec.ofChange rationalApartSpec)) rationalApartCard

/-- THE SECOND FORM's CARD OF 'priceofficelaw02.RationalApart'. -/
def rationalApartUptoCard : Claim7 := { stood := { row := rationalApartUptoRow, standIns := [], harness := (true, "8f275936f1e303f82e274364fe29483d1002d4addc950fd5f1a8ca0b86b6346e"), looks := false }, kinds := [], alts := [], laidByText := true, laidKinds := [.data, .data, .data], laidTests := true, laidLooks := .later }
def RationalApartUptoCardSaid : Prop := Claim7.holds Tryz.pinned (.plain (OpenSpec.upto rationalApartSpec)) rationalApartUptoCard
end Rows
end Go.Proofs.YtdcnkebcpaelpaaGreatDoor
