/-
  DERIVED. GIVEN WITH THE SEED: THE CARDS: each row of YtjijnngblhddkaaGreatDoorRows.lean that lists a variable, with what it lists TIED to the program's text (the seventh form; the later family's looks); each row that meets fmt, with fmt's text TOLD by the authors' own Lean function (tested against real Go, not proved from fmt's source: count such statements apart). THE CARD IS WHAT COUNTS. Prove the row's statement (the work); the ties are given (YtjijnngblhddkaaGreatDoorTie.lean); close each card by the builder's one call (the guide's Derived/Test/ToyasCard.lean, 'card_holds'). Laid BY PROGRAM, IN A SANDBOX (cutbox-door.mjs). By AI agents, Wed Nov 11 2026. No macro, syntax, notation, axiom, sorry.
-/
import Derived.Test.YtjijnngblhddkaaGreatDoorRows
import GoSem.ClaimSeven
namespace Go.Proofs.YtjijnngblhddkaaGreatDoor
namespace Rows

/-- THE TIED CARD OF 'priceofficelaw02.RationalPrints'. -/
def rationalPrintsCard : Claim7 := { stood := { row := rationalPrintsRow, standIns := [], harness := (true, "d9d95bf990633e59ebdc3f8dd2edd164a0e35c4dd01250927603d1bf68808d84"), looks := true }, kinds := [], alts := [], laidByText := true, laidKinds := [.data, .data, .data, .sentinel, .sentinel], laidTests := true, laidLooks := .later }
def RationalPrintsCardSaid : Prop := Claim7.holds Tryz.pinned (.plain (OpenSpec.ofChange rationalPrintsSpec)) rationalPrintsCard

/-- THE TIED CARD OF 'priceofficelaw02.RationalReads'. -/
def rationalReadsCard : Claim7 := { stood := { row := rationalReadsRow, standIns := [], harness := (true, "d9d95bf990633e59ebdc3f8dd2edd164a0e35c4dd01250927603d1bf68808d84"), looks := true }, kinds := [], alts := [], laidByText := true, laidKinds := [.data, .data, .data, .sentinel, .sentinel], laidTests := true, laidLooks := .later }
def RationalReadsCardSaid : Prop := Claim7.holds Tryz.pinned (.plain (OpenSpec.ofChange rationalReadsSpec)) rationalReadsCard

/-- THE TIED CARD OF 'priceofficelaw02.RationalDigits'. -/
def rationalDigitsCard : Claim7 := { stood := { row := rationalDigitsRow, standIns := [], harness := (true, "d9d95bf990633e59ebdc3f8dd2edd164a0e35c4dd01250927603d1bf68808d84"), looks := true }, kinds := [], alts := [], laidByText := true, laidKinds := [.data, .data, .data, .sentinel, .sentinel], laidTests := true, laidLooks := .later }
def RationalDigitsCardSaid : Prop := Claim7.holds Tryz.pinned (.plain (OpenSpec.ofChange rationalDigitsSpec)) rationalDigitsCard

/-- THE TIED CARD OF 'priceofficelaw02.RationalApart'. -/
def rationalApartCard : Claim7 := { stood := { row := rationalApartRow, standIns := [], harness := (true, "d9d95bf990633e59ebdc3f8dd2edd164a0e35c4dd01250927603d1bf68808d84"), looks := true }, kinds := [], alts := [], laidByText := true, laidKinds := [.data, .data, .data], laidTests := true, laidLooks := .later }
def RationalApartCardSaid : Prop := Claim7.holds Tryz.pinned (.plain (OpenSpec.ofChange rationalApartSpec)) rationalApartCard

/-- THE SECOND FORM's CARD OF 'priceofficelaw02.RationalPrints'. -/
def rationalPrintsUptoCard : Claim7 := { stood := { row := rationalPrintsUptoRow, standIns := [], harness := (true, "d9d95bf990633e59ebdc3f8dd2edd164a0e35c4dd01250927603d1bf68808d84"), looks := true }, kinds := [], alts := [], laidByText := true, laidKinds := [.data, .data, .data, .sentinel, .sentinel], laidTests := true, laidLooks := .later }
def RationalPrintsUptoCardSaid : Prop := Claim7.holds Tryz.pinned (.plain (OpenSpec.upto rationalPrintsSpec)) rationalPrintsUptoCard

/-- THE SECOND FORM's CARD OF 'priceofficelaw02.RationalReads'. -/
def rationalReadsUptoCard : Claim7 := { stood := { row := rationalReadsUptoRow, standIns := [], harness := (true, "d9d95bf990633e59ebdc3f8dd2edd164a0e35c4dd01250927603d1bf68808d84"), looks := true }, kinds := [], alts := [], laidByText := true, laidKinds := [.data, .data, .data, .sentinel, .sentinel], laidTests := true, laidLooks := .later }
def RationalReadsUptoCardSaid : Prop := Claim7.holds Tryz.pinned (.plain (OpenSpec.upto rationalReadsSpec)) rationalReadsUptoCard

/-- THE SECOND FORM's CARD OF 'priceofficelaw02.RationalDigits'. -/
def rationalDigitsUptoCard : Claim7 := { stood := { row := rationalDigitsUptoRow, standIns := [], harness := (true, "d9d95bf990633e59ebdc3f8dd2edd164a0e35c4dd01250927603d1bf68808d84"), looks := true }, kinds := [], alts := [], laidByText := true, laidKinds := [.data, .data, .data, .sentinel, .sentinel], laidTests := true, laidLooks := .later }
def RationalDigitsUptoCardSaid : Prop := Claim7.holds Tryz.pinned (.plain (OpenSpec.upto rationalDigitsSpec)) rationalDigitsUptoCard

/-- THE SECOND FORM's CARD OF 'priceofficelaw02.RationalApart'. -/
def rationalApartUptoCard : Claim7 := { stood := { row := rationalApartUptoRow, standIns := [], harness := (true, "d9d95bf990633e59ebdc3f8dd2edd164a0e35c4dd01250927603d1bf68808d84"), looks := true }, kinds := [], alts := [], laidByText := true, laidKinds := [.data, .data, .data], laidTests := true, laidLooks := .later }
def RationalApartUptoCardSaid : Prop := Claim7.holds Tryz.pinned (.plain (OpenSpec.upto rationalApartSpec)) rationalApartUptoCard
end Rows
end Go.Proofs.YtjijnngblhddkaaGreatDoor
