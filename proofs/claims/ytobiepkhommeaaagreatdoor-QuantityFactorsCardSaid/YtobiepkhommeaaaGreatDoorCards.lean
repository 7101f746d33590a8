/-
  DERIVED. GIVEN WITH THE SEED: THE CARDS: each row of YtobiepkhommeaaaGreatDoorRows.lean that lists a variable, with what it lists TIED to the program's text (the seventh form; the later family's looks); each row that meets fmt, with fmt's text TOLD by the authors' own Lean function (tested against real Go, not proved from fmt's source: count such statements apart). THE CARD IS WHAT COUNTS. Prove the row's statement (the work); the ties are given (YtobiepkhommeaaaGreatDoorTie.lean); close each card by the builder's one call (the guide's Derived/Test/ToyasCard.lean, 'card_holds'). Laid BY PROGRAM, IN A SANDBOX (cutbox-door.mjs). By AI agents, Wed Nov 11 2026. No macro, syntax, notation, axiom, sorry.
-/
import Derived.Test.YtobiepkhommeaaaGreatDoorRows
import GoSem.ClaimSeven
namespace Go.Proofs.YtobiepkhommeaaaGreatDoor
namespace Rows

/-- THE TIED CARD OF 'priceofficelaw02.RationalApart'. -/
def rationalApartCard : Claim7 := { stood := { row := rationalApartRow, standIns := [], harness := (true, "375a55cef3c0553e1d9e5e60485c9568de5016398e685b1b96784e6c0ead81d4"), looks := true }, kinds := [], alts := [], laidByText := true, laidKinds := [.data, .data, .data], laidTests := true, laidLooks := .later }
def RationalApartCardSaid : Prop := Claim7.holds Tryz.pinned (.plain (OpenSpec.ofChange rationalApartSpec)) rationalApartCard

/-- THE TIED CARD OF 'priceofficelaw08.QuantityPrints'. -/
def quantityPrintsCard : Claim7 := { stood := { row := quantityPrintsRow, standIns := [], harness := (true, "375a55cef3c0553e1d9e5e60485c9568de5016398e685b1b96784e6c0ead81d4"), looks := true }, kinds := [], alts := [], laidByText := true, laidKinds := [.data, .data, .data, .data, .sentinel, .sentinel, .pinned], laidTests := true, laidLooks := .later }
def QuantityPrintsCardSaid : Prop := Claim7.holds Tryz.pinned (.plain (OpenSpec.ofChange quantityPrintsSpec)) quantityPrintsCard

/-- THE TIED CARD OF 'priceofficelaw08.QuantityBack'. -/
def quantityBackCard : Claim7 := { stood := { row := quantityBackRow, standIns := [], harness := (true, "375a55cef3c0553e1d9e5e60485c9568de5016398e685b1b96784e6c0ead81d4"), looks := true }, kinds := [], alts := [], laidByText := true, laidKinds := [.data, .data, .data, .data, .sentinel, .sentinel, .pinned], laidTests := true, laidLooks := .later }
def QuantityBackCardSaid : Prop := Claim7.holds Tryz.pinned (.plain (OpenSpec.ofChange quantityBackSpec)) quantityBackCard

/-- THE TIED CARD OF 'priceofficelaw08.QuantityReads'. -/
def quantityReadsCard : Claim7 := { stood := { row := quantityReadsRow, standIns := [], harness := (true, "375a55cef3c0553e1d9e5e60485c9568de5016398e685b1b96784e6c0ead81d4"), looks := true }, kinds := [], alts := [], laidByText := true, laidKinds := [.data, .data, .data, .sentinel, .sentinel], laidTests := true, laidLooks := .later }
def QuantityReadsCardSaid : Prop := Claim7.holds Tryz.pinned (.plain (OpenSpec.ofChange quantityReadsSpec)) quantityReadsCard

/-- THE TIED CARD OF 'priceofficelaw08.QuantityFactors'. -/
def quantityFactorsCard : Claim7 := { stood := { row := quantityFactorsRow, standIns := [], harness := (true, "375a55cef3c0553e1d9e5e60485c9568de5016398e685b1b96784e6c0ead81d4"), looks := true }, kinds := [], alts := [], laidByText := true, laidKinds := [.data, .data, .data, .sentinel, .sentinel], laidTests := true, laidLooks := .later }
def QuantityFactorsCardSaid : Prop := Claim7.holds Tryz.pinned (.plain (OpenSpec.ofChange quantityFactorsSpec)) quantityFactorsCard

/-- THE TIED CARD OF 'priceofficelaw08.QuantityChains'. -/
def quantityChainsCard : Claim7 := { stood := { row := quantityChainsRow, standIns := [], harness := (true, "375a55cef3c0553e1d9e5e60485c9568de5016398e685b1b96784e6c0ead81d4"), looks := true }, kinds := [], alts := [], laidByText := true, laidKinds := [.data, .data, .data, .sentinel, .sentinel], laidTests := true, laidLooks := .later }
def QuantityChainsCardSaid : Prop := Claim7.holds Tryz.pinned (.plain (OpenSpec.ofChange quantityChainsSpec)) quantityChainsCard

/-- THE TIED CARD OF 'priceofficelaw08.QuantityUnits'. -/
def quantityUnitsCard : Claim7 := { stood := { row := quantityUnitsRow, standIns := [], harness := (true, "375a55cef3c0553e1d9e5e60485c9568de5016398e685b1b96784e6c0ead81d4"), looks := true }, kinds := [], alts := [], laidByText := true, laidKinds := [.data, .data, .data, .sentinel, .sentinel], laidTests := true, laidLooks := .later }
def QuantityUnitsCardSaid : Prop := Claim7.holds Tryz.pinned (.plain (OpenSpec.ofChange quantityUnitsSpec)) quantityUnitsCard

/-- THE SECOND FORM's CARD OF 'priceofficelaw02.RationalApart'. -/
def rationalApartUptoCard : Claim7 := { stood := { row := rationalApartUptoRow, standIns := [], harness := (true, "375a55cef3c0553e1d9e5e60485c9568de5016398e685b1b96784e6c0ead81d4"), looks := true }, kinds := [], alts := [], laidByText := true, laidKinds := [.data, .data, .data], laidTests := true, laidLooks := .later }
def RationalApartUptoCardSaid : Prop := Claim7.holds Tryz.pinned (.plain (OpenSpec.upto rationalApartSpec)) rationalApartUptoCard

/-- THE SECOND FORM's CARD OF 'priceofficelaw08.QuantityPrints'. -/
def quantityPrintsUptoCard : Claim7 := { stood := { row := quantityPrintsUptoRow, standIns := [], harness := (true, "375a55cef3c0553e1d9e5e60485c9568de5016398e685b1b96784e6c0ead81d4"), looks := true }, kinds := [], alts := [], laidByText := true, laidKinds := [.data, .data, .data, .data, .sentinel, .sentinel, .pinned], laidTests := true, laidLooks := .later }
def QuantityPrintsUptoCardSaid : Prop := Claim7.holds Tryz.pinned (.plain (OpenSpec.upto quantityPrintsSpec)) quantityPrintsUptoCard

/-- THE SECOND FORM's CARD OF 'priceofficelaw08.QuantityBack'. -/
def quantityBackUptoCard : Claim7 := { stood := { row := quantityBackUptoRow, standIns := [], harness := (true, "375a55cef3c0553e1d9e5e60485c9568de5016398e685b1b96784e6c0ead81d4"), looks := true }, kinds := [], alts := [], laidByText := true, laidKinds := [.data, .data, .data, .data, .sentinel, .sentinel, .pinned], laidTests := true, laidLooks := .later }
def QuantityBackUptoCardSaid : Prop := Claim7.holds Tryz.pinned (.plain (OpenSpec.upto quantityBackSpec)) quantityBackUptoCard

/-- THE SECOND FORM's CARD OF 'priceofficelaw08.QuantityReads'. -/
def quantityReadsUptoCard : Claim7 := { stood := { row := quantityReadsUptoRow, standIns := [], harness := (true, "375a55cef3c0553e1d9e5e60485c9568de5016398e685b1b96784e6c0ead81d4"), looks := true }, kinds := [], alts := [], laidByText := true, laidKinds := [.data, .data, .data, .sentinel, .sentinel], laidTests := true, laidLooks := .later }
def QuantityReadsUptoCardSaid : Prop := Claim7.holds Tryz.pinned (.plain (OpenSpec.upto quantityReadsSpec)) quantityReadsUptoCard

/-- THE SECOND FORM's CARD OF 'priceofficelaw08.QuantityFactors'. -/
def quantityFactorsUptoCard : Claim7 := { stood := { row := quantityFactorsUptoRow, standIns := [], harness := (true, "375a55cef3c0553e1d9e5e60485c9568de5016398e685b1b96784e6c0ead81d4"), looks := true }, kinds := [], alts := [], laidByText := true, laidKinds := [.data, .data, .data, .sentinel, .sentinel], laidTests := true, laidLooks := .later }
def QuantityFactorsUptoCardSaid : Prop := Claim7.holds Tryz.pinned (.plain (OpenSpec.upto quantityFactorsSpec)) quantityFactorsUptoCard

/-- THE SECOND FORM's CARD OF 'priceofficelaw08.QuantityChains'. -/
def quantityChainsUptoCard : Claim7 := { stood := { row := quantityChainsUptoRow, standIns := [], harness := (true, "375a55cef3c0553e1d9e5e60485c9568de5016398e685b1b96784e6c0ead81d4"), looks := true }, kinds := [], alts := [], laidByText := true, laidKinds := [.data, .data, .data, .sentinel, .sentinel], laidTests := true, laidLooks := .later }
def QuantityChainsUptoCardSaid : Prop := Claim7.holds Tryz.pinned (.plain (OpenSpec.upto quantityChainsSpec)) quantityChainsUptoCard

/-- THE SECOND FORM's CARD OF 'priceofficelaw08.QuantityUnits'. -/
def quantityUnitsUptoCard : Claim7 := { stood := { row := quantityUnitsUptoRow, standIns := [], harness := (true, "375a55cef3c0553e1d9e5e60485c9568de5016398e685b1b96784e6c0ead81d4"), looks := true }, kinds := [], alts := [], laidByText := true, laidKinds := [.data, .data, .data, .sentinel, .sentinel], laidTests := true, laidLooks := .later }
def QuantityUnitsUptoCardSaid : Prop := Claim7.holds Tryz.pinned (.plain (OpenSpec.upto quantityUnitsSpec)) quantityUnitsUptoCard
end Rows
end Go.Proofs.YtobiepkhommeaaaGreatDoor
