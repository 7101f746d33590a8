/-
  DERIVED. GIVEN WITH THE SEED: THE CARDS: each row of YtobiepkhommeaaaDoorRows.lean that lists a variable, with what it lists TIED to the program's text (the seventh form; the later family's looks); each row that meets fmt, with fmt's text TOLD by the authors' own Lean function (tested against real Go, not proved from fmt's source: count such statements apart). THE CARD IS WHAT COUNTS. Prove the row's statement (the work); the ties are given (YtobiepkhommeaaaDoorTie.lean); close each card by the builder's one call (the guide's Derived/Test/ToyasCard.lean, 'card_holds'). Laid BY PROGRAM, IN A SANDBOX (cutbox-door.mjs). By AI agents, Wed Nov 11 2026. No macro, syntax, notation, axiom, sorry.
-/
import Derived.Test.YtobiepkhommeaaaDoorRows
import GoSem.ClaimSeven
namespace Go.Proofs.YtobiepkhommeaaaDoor
namespace Rows

/-- THE TIED CARD OF 'priceofficelaw08.QuantityValid'. -/
def quantityValidCard : Claim7 := { stood := { row := quantityValidRow, standIns := [], harness := (true, "fde5990b80441b4938ac9b17cd93cdf8c2594fc90e67399935cbbf16bc5570ae"), looks := true }, kinds := [], alts := [], laidByText := true, laidKinds := [.data, .data, .data, .sentinel, .sentinel], laidTests := true, laidLooks := .later }
def QuantityValidCardSaid : Prop := Claim7.holds Tryd.pinned (.plain (OpenSpec.ofChange quantityValidSpec)) quantityValidCard

/-- THE TIED CARD OF 'priceofficelaw08.QuantityLimits'. -/
def quantityLimitsCard : Claim7 := { stood := { row := quantityLimitsRow, standIns := [], harness := (true, "fde5990b80441b4938ac9b17cd93cdf8c2594fc90e67399935cbbf16bc5570ae"), looks := true }, kinds := [], alts := [], laidByText := true, laidKinds := [.data, .data, .data, .sentinel, .sentinel], laidTests := true, laidLooks := .later }
def QuantityLimitsCardSaid : Prop := Claim7.holds Tryd.pinned (.plain (OpenSpec.ofChange quantityLimitsSpec)) quantityLimitsCard

/-- THE SECOND FORM's CARD OF 'priceofficelaw08.QuantityValid'. -/
def quantityValidUptoCard : Claim7 := { stood := { row := quantityValidUptoRow, standIns := [], harness := (true, "fde5990b80441b4938ac9b17cd93cdf8c2594fc90e67399935cbbf16bc5570ae"), looks := true }, kinds := [], alts := [], laidByText := true, laidKinds := [.data, .data, .data, .sentinel, .sentinel], laidTests := true, laidLooks := .later }
def QuantityValidUptoCardSaid : Prop := Claim7.holds Tryd.pinned (.plain (OpenSpec.upto quantityValidSpec)) quantityValidUptoCard

/-- THE SECOND FORM's CARD OF 'priceofficelaw08.QuantityLimits'. -/
def quantityLimitsUptoCard : Claim7 := { stood := { row := quantityLimitsUptoRow, standIns := [], harness := (true, "fde5990b80441b4938ac9b17cd93cdf8c2594fc90e67399935cbbf16bc5570ae"), looks := true }, kinds := [], alts := [], laidByText := true, laidKinds := [.data, .data, .data, .sentinel, .sentinel], laidTests := true, laidLooks := .later }
def QuantityLimitsUptoCardSaid : Prop := Claim7.holds Tryd.pinned (.plain (OpenSpec.upto quantityLimitsSpec)) quantityLimitsUptoCard
end Rows
end Go.Proofs.YtobiepkhommeaaaDoor
