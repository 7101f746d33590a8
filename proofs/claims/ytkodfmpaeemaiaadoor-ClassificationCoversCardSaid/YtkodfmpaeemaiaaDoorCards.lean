/-
  DERIVED. GIVEN WITH THE SEED: THE CARDS: each row of YtkodfmpaeemaiaaDoorRows.lean that lists a variable, with what it lists TIED to the program's text (the seventh form; the later family's looks); each row that meets fmt, with fmt's text TOLD by the authors' own Lean function (tested against real Go, not proved from fmt's source: count such statements apart). THE CARD IS WHAT COUNTS. Prove the row's statement (the work); the ties are given (YtkodfmpaeemaiaaDoorTie.lean); close each card by the builder's one call (the guide's Derived/Test/ToyasCard.lean, 'card_holds'). Laid BY PROGRAM, IN A SANDBOX (cutbox-door.mjs). By AI agents, Wed Nov 11 2026. No macro, syntax, notation, axiom, sorry.
-/
import Derived.Test.YtkodfmpaeemaiaaDoorRows
import GoSem.ClaimSeven
namespace Go.Proofs.YtkodfmpaeemaiaaDoor
namespace Rows

/-- THE TIED CARD OF 'priceofficelaw06.ClassificationValid'. -/
def classificationValidCard : Claim7 := { stood := { row := classificationValidRow, standIns := [], harness := (true, "792664186d0c58ac042087e5cfd6a3cc73d556423900ab949dd2ac4cfa3cd254"), looks := true }, kinds := [], alts := [], laidByText := true, laidKinds := [.data, .data, .data, .data, .sentinel, .sentinel, .pinned], laidTests := true, laidLooks := .later }
def ClassificationValidCardSaid : Prop := Claim7.holds Tryd.pinned (.plain (OpenSpec.ofChange classificationValidSpec)) classificationValidCard

/-- THE TIED CARD OF 'priceofficelaw06.ClassificationLeaves'. -/
def classificationLeavesCard : Claim7 := { stood := { row := classificationLeavesRow, standIns := [], harness := (true, "792664186d0c58ac042087e5cfd6a3cc73d556423900ab949dd2ac4cfa3cd254"), looks := true }, kinds := [], alts := [], laidByText := true, laidKinds := [.data, .data, .data, .data, .sentinel, .sentinel, .pinned], laidTests := true, laidLooks := .later }
def ClassificationLeavesCardSaid : Prop := Claim7.holds Tryd.pinned (.plain (OpenSpec.ofChange classificationLeavesSpec)) classificationLeavesCard

/-- THE TIED CARD OF 'priceofficelaw06.ClassificationDivides'. -/
def classificationDividesCard : Claim7 := { stood := { row := classificationDividesRow, standIns := [], harness := (true, "792664186d0c58ac042087e5cfd6a3cc73d556423900ab949dd2ac4cfa3cd254"), looks := true }, kinds := [], alts := [], laidByText := true, laidKinds := [.data, .data, .data, .data, .sentinel, .sentinel, .pinned], laidTests := true, laidLooks := .later }
def ClassificationDividesCardSaid : Prop := Claim7.holds Tryd.pinned (.plain (OpenSpec.ofChange classificationDividesSpec)) classificationDividesCard

/-- THE TIED CARD OF 'priceofficelaw06.ClassificationCovers'. -/
def classificationCoversCard : Claim7 := { stood := { row := classificationCoversRow, standIns := [], harness := (true, "792664186d0c58ac042087e5cfd6a3cc73d556423900ab949dd2ac4cfa3cd254"), looks := true }, kinds := [], alts := [], laidByText := true, laidKinds := [.data, .data, .data, .data, .sentinel, .sentinel, .pinned], laidTests := true, laidLooks := .later }
def ClassificationCoversCardSaid : Prop := Claim7.holds Tryd.pinned (.plain (OpenSpec.ofChange classificationCoversSpec)) classificationCoversCard

/-- THE SECOND FORM's CARD OF 'priceofficelaw06.ClassificationValid'. -/
def classificationValidUptoCard : Claim7 := { stood := { row := classificationValidUptoRow, standIns := [], harness := (true, "792664186d0c58ac042087e5cfd6a3cc73d556423900ab949dd2ac4cfa3cd254"), looks := true }, kinds := [], alts := [], laidByText := true, laidKinds := [.data, .data, .data, .data, .sentinel, .sentinel, .pinned], laidTests := true, laidLooks := .later }
def ClassificationValidUptoCardSaid : Prop := Claim7.holds Tryd.pinned (.plain (OpenSpec.upto classificationValidSpec)) classificationValidUptoCard

/-- THE SECOND FORM's CARD OF 'priceofficelaw06.ClassificationLeaves'. -/
def classificationLeavesUptoCard : Claim7 := { stood := { row := classificationLeavesUptoRow, standIns := [], harness := (true, "792664186d0c58ac042087e5cfd6a3cc73d556423900ab949dd2ac4cfa3cd254"), looks := true }, kinds := [], alts := [], laidByText := true, laidKinds := [.data, .data, .data, .data, .sentinel, .sentinel, .pinned], laidTests := true, laidLooks := .later }
def ClassificationLeavesUptoCardSaid : Prop := Claim7.holds Tryd.pinned (.plain (OpenSpec.upto classificationLeavesSpec)) classificationLeavesUptoCard

/-- THE SECOND FORM's CARD OF 'priceofficelaw06.ClassificationDivides'. -/
def classificationDividesUptoCard : Claim7 := { stood := { row := classificationDividesUptoRow, standIns := [], harness := (true, "792664186d0c58ac042087e5cfd6a3cc73d556423900ab949dd2ac4cfa3cd254"), looks := true }, kinds := [], alts := [], laidByText := true, laidKinds := [.data, .data, .data, .data, .sentinel, .sentinel, .pinned], laidTests := true, laidLooks := .later }
def ClassificationDividesUptoCardSaid : Prop := Claim7.holds Tryd.pinned (.plain (OpenSpec.upto classificationDividesSpec)) classificationDividesUptoCard

/-- THE SECOND FORM's CARD OF 'priceofficelaw06.ClassificationCovers'. -/
def classificationCoversUptoCard : Claim7 := { stood := { row := classificationCoversUptoRow, standIns := [], harness := (true, "792664186d0c58ac042087e5cfd6a3cc73d556423900ab949dd2ac4cfa3cd254"), looks := true }, kinds := [], alts := [], laidByText := true, laidKinds := [.data, .data, .data, .data, .sentinel, .sentinel, .pinned], laidTests := true, laidLooks := .later }
def ClassificationCoversUptoCardSaid : Prop := Claim7.holds Tryd.pinned (.plain (OpenSpec.upto classificationCoversSpec)) classificationCoversUptoCard
end Rows
end Go.Proofs.YtkodfmpaeemaiaaDoor
