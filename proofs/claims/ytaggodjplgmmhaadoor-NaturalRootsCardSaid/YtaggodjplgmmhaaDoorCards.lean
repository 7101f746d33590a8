/-
  DERIVED. GIVEN WITH THE SEED: THE CARDS: each row of YtaggodjplgmmhaaDoorRows.lean that lists a variable, with what it lists TIED to the program's text (the seventh form; the later family's looks); each row that meets fmt, with fmt's text TOLD by the authors' own Lean function (tested against real Go, not proved from fmt's source: count such statements apart). THE CARD IS WHAT COUNTS. Prove the row's statement (the work); the ties are given (YtaggodjplgmmhaaDoorTie.lean); close each card by the builder's one call (the guide's Derived/Test/ToyasCard.lean, 'card_holds'). Laid BY PROGRAM, IN A SANDBOX (cutbox-door.mjs). By AI agents, Wed Nov 11 2026. No macro, syntax, notation, axiom, sorry.
-/
import Derived.Test.YtaggodjplgmmhaaDoorRows
import GoSem.ClaimSeven
namespace Go.Proofs.YtaggodjplgmmhaaDoor
namespace Rows

/-- THE TIED CARD OF 'priceofficelaw01.NaturalDivides'. -/
def naturalDividesCard : Claim7 := { stood := { row := naturalDividesRow, standIns := [], harness := (true, "523706d490e894ef8a47ef58a820d3ccd4cfb6031ee11d813caa9eb42a7e9817"), looks := false }, kinds := [], alts := [], laidByText := true, laidKinds := [.data, .data, .data], laidTests := true, laidLooks := .later }
def NaturalDividesCardSaid : Prop := Claim7.holds Tryd.pinned (.plain (OpenSpec.ofChange naturalDividesSpec)) naturalDividesCard

/-- THE TIED CARD OF 'priceofficelaw01.NaturalExact'. -/
def naturalExactCard : Claim7 := { stood := { row := naturalExactRow, standIns := [], harness := (true, "523706d490e894ef8a47ef58a820d3ccd4cfb6031ee11d813caa9eb42a7e9817"), looks := false }, kinds := [], alts := [], laidByText := true, laidKinds := [.data, .data, .data], laidTests := true, laidLooks := .later }
def NaturalExactCardSaid : Prop := Claim7.holds Tryd.pinned (.plain (OpenSpec.ofChange naturalExactSpec)) naturalExactCard

/-- THE TIED CARD OF 'priceofficelaw01.NaturalDivisors'. -/
def naturalDivisorsCard : Claim7 := { stood := { row := naturalDivisorsRow, standIns := [], harness := (true, "523706d490e894ef8a47ef58a820d3ccd4cfb6031ee11d813caa9eb42a7e9817"), looks := false }, kinds := [], alts := [], laidByText := true, laidKinds := [.data, .data, .data], laidTests := true, laidLooks := .later }
def NaturalDivisorsCardSaid : Prop := Claim7.holds Tryd.pinned (.plain (OpenSpec.ofChange naturalDivisorsSpec)) naturalDivisorsCard

/-- THE TIED CARD OF 'priceofficelaw01.NaturalPowers'. -/
def naturalPowersCard : Claim7 := { stood := { row := naturalPowersRow, standIns := [], harness := (true, "523706d490e894ef8a47ef58a820d3ccd4cfb6031ee11d813caa9eb42a7e9817"), looks := false }, kinds := [], alts := [], laidByText := true, laidKinds := [.data, .data, .data], laidTests := true, laidLooks := .later }
def NaturalPowersCardSaid : Prop := Claim7.holds Tryd.pinned (.plain (OpenSpec.ofChange naturalPowersSpec)) naturalPowersCard

/-- THE TIED CARD OF 'priceofficelaw01.NaturalExponents'. -/
def naturalExponentsCard : Claim7 := { stood := { row := naturalExponentsRow, standIns := [], harness := (true, "523706d490e894ef8a47ef58a820d3ccd4cfb6031ee11d813caa9eb42a7e9817"), looks := false }, kinds := [], alts := [], laidByText := true, laidKinds := [.data, .data, .data], laidTests := true, laidLooks := .later }
def NaturalExponentsCardSaid : Prop := Claim7.holds Tryd.pinned (.plain (OpenSpec.ofChange naturalExponentsSpec)) naturalExponentsCard

/-- THE TIED CARD OF 'priceofficelaw01.NaturalRoots'. -/
def naturalRootsCard : Claim7 := { stood := { row := naturalRootsRow, standIns := [], harness := (true, "523706d490e894ef8a47ef58a820d3ccd4cfb6031ee11d813caa9eb42a7e9817"), looks := false }, kinds := [], alts := [], laidByText := true, laidKinds := [.data, .data, .data], laidTests := true, laidLooks := .later }
def NaturalRootsCardSaid : Prop := Claim7.holds Tryd.pinned (.plain (OpenSpec.ofChange naturalRootsSpec)) naturalRootsCard

/-- THE TIED CARD OF 'priceofficelaw01.NaturalTexts'. -/
def naturalTextsCard : Claim7 := { stood := { row := naturalTextsRow, standIns := [], harness := (true, "523706d490e894ef8a47ef58a820d3ccd4cfb6031ee11d813caa9eb42a7e9817"), looks := false }, kinds := [], alts := [], laidByText := true, laidKinds := [.data, .data, .data], laidTests := true, laidLooks := .later }
def NaturalTextsCardSaid : Prop := Claim7.holds Tryd.pinned (.plain (OpenSpec.ofChange naturalTextsSpec)) naturalTextsCard

/-- THE TIED CARD OF 'priceofficelaw01.NaturalLong'. -/
def naturalLongCard : Claim7 := { stood := { row := naturalLongRow, standIns := [], harness := (true, "523706d490e894ef8a47ef58a820d3ccd4cfb6031ee11d813caa9eb42a7e9817"), looks := false }, kinds := [], alts := [], laidByText := true, laidKinds := [.data, .data, .data], laidTests := true, laidLooks := .later }
def NaturalLongCardSaid : Prop := Claim7.holds Tryd.pinned (.plain (OpenSpec.ofChange naturalLongSpec)) naturalLongCard

/-- THE TIED CARD OF 'priceofficelaw01.NaturalPrints'. -/
def naturalPrintsCard : Claim7 := { stood := { row := naturalPrintsRow, standIns := [], harness := (true, "523706d490e894ef8a47ef58a820d3ccd4cfb6031ee11d813caa9eb42a7e9817"), looks := false }, kinds := [], alts := [], laidByText := true, laidKinds := [.data, .data, .data], laidTests := true, laidLooks := .later }
def NaturalPrintsCardSaid : Prop := Claim7.holds Tryd.pinned (.plain (OpenSpec.ofChange naturalPrintsSpec)) naturalPrintsCard

/-- THE TIED CARD OF 'priceofficelaw01.NaturalApart'. -/
def naturalApartCard : Claim7 := { stood := { row := naturalApartRow, standIns := [], harness := (true, "523706d490e894ef8a47ef58a820d3ccd4cfb6031ee11d813caa9eb42a7e9817"), looks := false }, kinds := [], alts := [], laidByText := true, laidKinds := [.data, .data, .data], laidTests := true, laidLooks := .later }
def NaturalApartCardSaid : Prop := Claim7.holds Tryd.pinned (.plain (OpenSpec.ofChange naturalApartSpec)) naturalApartCard

/-- THE SECOND FORM's CARD OF 'priceofficelaw01.NaturalDivides'. -/
def naturalDividesUptoCard : Claim7 := { stood := { row := naturalDividesUptoRow, standIns := [], harness := (true, "523706d490e894ef8a47ef58a820d3ccd4cfb6031ee11d813caa9eb42a7e9817"), looks := false }, kinds := [], alts := [], laidByText := true, laidKinds := [.data, .data, .data], laidTests := true, laidLooks := .later }
def NaturalDividesUptoCardSaid : Prop := Claim7.holds Tryd.pinned (.plain (OpenSpec.upto naturalDividesSpec)) naturalDividesUptoCard

/-- THE SECOND FORM's CARD OF 'priceofficelaw01.NaturalExact'. -/
def naturalExactUptoCard : Claim7 := { stood := { row := naturalExactUptoRow, standIns := [], harness := (true, "523706d490e894ef8a47ef58a820d3ccd4cfb6031ee11d813caa9eb42a7e9817"), looks := false }, kinds := [], alts := [], laidByText := true, laidKinds := [.data, .data, .data], laidTests := true, laidLooks := .later }
def NaturalExactUptoCardSaid : Prop := Claim7.holds Tryd.pinned (.plain (OpenSpec.upto naturalExactSpec)) naturalExactUptoCard

/-- THE SECOND FORM's CARD OF 'priceofficelaw01.NaturalDivisors'. -/
def naturalDivisorsUptoCard : Claim7 := { stood := { row := naturalDivisorsUptoRow, standIns := [], harness := (true, "523706d490e894ef8a47ef58a820d3ccd4cfb6031ee11d813caa9eb42a7e9817"), looks := false }, kinds := [], alts := [], laidByText := true, laidKinds := [.data, .data, .data], laidTests := true, laidLooks := .later }
def NaturalDivisorsUptoCardSaid : Prop := Claim7.holds Tryd.pinned (.plain (OpenSpec.upto naturalDivisorsSpec)) naturalDivisorsUptoCard

/-- THE SECOND FORM's CARD OF 'priceofficelaw01.NaturalPowers'. -/
def naturalPowersUptoCard : Claim7 := { stood := { row := naturalPowersUptoRow, standIns := [], harness := (true, "523706d490e894ef8a47ef58a820d3ccd4cfb6031ee11d813caa9eb42a7e9817"), looks := false }, kinds := [], alts := [], laidByText := true, laidKinds := [.data, .data, .data], laidTests := true, laidLooks := .later }
def NaturalPowersUptoCardSaid : Prop := Claim7.holds Tryd.pinned (.plain (OpenSpec.upto naturalPowersSpec)) naturalPowersUptoCard

/-- THE SECOND FORM's CARD OF 'priceofficelaw01.NaturalExponents'. -/
def naturalExponentsUptoCard : Claim7 := { stood := { row := naturalExponentsUptoRow, standIns := [], harness := (true, "523706d490e894ef8a47ef58a820d3ccd4cfb6031ee11d813caa9eb42a7e9817"), looks := false }, kinds := [], alts := [], laidByText := true, laidKinds := [.data, .data, .data], laidTests := true, laidLooks := .later }
def NaturalExponentsUptoCardSaid : Prop := Claim7.holds Tryd.pinned (.plain (OpenSpec.upto naturalExponentsSpec)) naturalExponentsUptoCard

/-- THE SECOND FORM's CARD OF 'priceofficelaw01.NaturalRoots'. -/
def naturalRootsUptoCard : Claim7 := { stood := { row := naturalRootsUptoRow, standIns := [], harness := (true, "523706d490e894ef8a47ef58a820d3ccd4cfb6031ee11d813caa9eb42a7e9817"), looks := false }, kinds := [], alts := [], laidByText := true, laidKinds := [.data, .data, .data], laidTests := true, laidLooks := .later }
def NaturalRootsUptoCardSaid : Prop := Claim7.holds Tryd.pinned (.plain (OpenSpec.upto naturalRootsSpec)) naturalRootsUptoCard

/-- THE SECOND FORM's CARD OF 'priceofficelaw01.NaturalTexts'. -/
def naturalTextsUptoCard : Claim7 := { stood := { row := naturalTextsUptoRow, standIns := [], harness := (true, "523706d490e894ef8a47ef58a820d3ccd4cfb6031ee11d813caa9eb42a7e9817"), looks := false }, kinds := [], alts := [], laidByText := true, laidKinds := [.data, .data, .data], laidTests := true, laidLooks := .later }
def NaturalTextsUptoCardSaid : Prop := Claim7.holds Tryd.pinned (.plain (OpenSpec.upto naturalTextsSpec)) naturalTextsUptoCard

/-- THE SECOND FORM's CARD OF 'priceofficelaw01.NaturalLong'. -/
def naturalLongUptoCard : Claim7 := { stood := { row := naturalLongUptoRow, standIns := [], harness := (true, "523706d490e894ef8a47ef58a820d3ccd4cfb6031ee11d813caa9eb42a7e9817"), looks := false }, kinds := [], alts := [], laidByText := true, laidKinds := [.data, .data, .data], laidTests := true, laidLooks := .later }
def NaturalLongUptoCardSaid : Prop := Claim7.holds Tryd.pinned (.plain (OpenSpec.upto naturalLongSpec)) naturalLongUptoCard

/-- THE SECOND FORM's CARD OF 'priceofficelaw01.NaturalPrints'. -/
def naturalPrintsUptoCard : Claim7 := { stood := { row := naturalPrintsUptoRow, standIns := [], harness := (true, "523706d490e894ef8a47ef58a820d3ccd4cfb6031ee11d813caa9eb42a7e9817"), looks := false }, kinds := [], alts := [], laidByText := true, laidKinds := [.data, .data, .data], laidTests := true, laidLooks := .later }
def NaturalPrintsUptoCardSaid : Prop := Claim7.holds Tryd.pinned (.plain (OpenSpec.upto naturalPrintsSpec)) naturalPrintsUptoCard

/-- THE SECOND FORM's CARD OF 'priceofficelaw01.NaturalApart'. -/
def naturalApartUptoCard : Claim7 := { stood := { row := naturalApartUptoRow, standIns := [], harness := (true, "523706d490e894ef8a47ef58a820d3ccd4cfb6031ee11d813caa9eb42a7e9817"), looks := false }, kinds := [], alts := [], laidByText := true, laidKinds := [.data, .data, .data], laidTests := true, laidLooks := .later }
def NaturalApartUptoCardSaid : Prop := Claim7.holds Tryd.pinned (.plain (OpenSpec.upto naturalApartSpec)) naturalApartUptoCard
end Rows
end Go.Proofs.YtaggodjplgmmhaaDoor
