/-
  DERIVED. GIVEN WITH THE SEED: THE CARDS: each row of YtaefncebebonoaaDoorRows.lean that lists a variable, with what it lists TIED to the program's text (the seventh form; the later family's looks); each row that meets fmt, with fmt's text TOLD by the authors' own Lean function (tested against real Go, not proved from fmt's source: count such statements apart). THE CARD IS WHAT COUNTS. Prove the row's statement (the work); the ties are given (YtaefncebebonoaaDoorTie.lean); close each card by the builder's one call (the guide's Derived/Test/ToyasCard.lean, 'card_holds'). Laid BY PROGRAM, IN A SANDBOX (cutbox-door.mjs). By AI agents, Wed Nov 11 2026. No macro, syntax, notation, axiom, sorry.
-/
import Derived.Test.YtaefncebebonoaaDoorRows
import GoSem.ClaimSeven
namespace Go.Proofs.YtaefncebebonoaaDoor
namespace Rows

/-- THE TIED CARD OF 'priceofficelaw02.RationalSums'. -/
def rationalSumsCard : Claim7 := { stood := { row := rationalSumsRow, standIns := [], harness := (true, "0be9587ba7c6308f4860c6db582e1fd217cf0c47e14bd0ff236feb956bc4cc60"), looks := false }, kinds := [], alts := [], laidByText := true, laidKinds := [.data, .data, .data], laidTests := true, laidLooks := .later }
def RationalSumsCardSaid : Prop := Claim7.holds Tryd.pinned (.plain (OpenSpec.ofChange rationalSumsSpec)) rationalSumsCard

/-- THE TIED CARD OF 'priceofficelaw02.RationalLists'. -/
def rationalListsCard : Claim7 := { stood := { row := rationalListsRow, standIns := [], harness := (true, "0be9587ba7c6308f4860c6db582e1fd217cf0c47e14bd0ff236feb956bc4cc60"), looks := false }, kinds := [], alts := [], laidByText := true, laidKinds := [.data, .data, .data], laidTests := true, laidLooks := .later }
def RationalListsCardSaid : Prop := Claim7.holds Tryd.pinned (.plain (OpenSpec.ofChange rationalListsSpec)) rationalListsCard

/-- THE TIED CARD OF 'priceofficelaw02.RationalField'. -/
def rationalFieldCard : Claim7 := { stood := { row := rationalFieldRow, standIns := [], harness := (true, "0be9587ba7c6308f4860c6db582e1fd217cf0c47e14bd0ff236feb956bc4cc60"), looks := false }, kinds := [], alts := [], laidByText := true, laidKinds := [.data, .data, .data], laidTests := true, laidLooks := .later }
def RationalFieldCardSaid : Prop := Claim7.holds Tryd.pinned (.plain (OpenSpec.ofChange rationalFieldSpec)) rationalFieldCard

/-- THE TIED CARD OF 'priceofficelaw02.RationalPowers'. -/
def rationalPowersCard : Claim7 := { stood := { row := rationalPowersRow, standIns := [], harness := (true, "0be9587ba7c6308f4860c6db582e1fd217cf0c47e14bd0ff236feb956bc4cc60"), looks := false }, kinds := [], alts := [], laidByText := true, laidKinds := [.data, .data, .data], laidTests := true, laidLooks := .later }
def RationalPowersCardSaid : Prop := Claim7.holds Tryd.pinned (.plain (OpenSpec.ofChange rationalPowersSpec)) rationalPowersCard

/-- THE TIED CARD OF 'priceofficelaw02.RationalInverse'. -/
def rationalInverseCard : Claim7 := { stood := { row := rationalInverseRow, standIns := [], harness := (true, "0be9587ba7c6308f4860c6db582e1fd217cf0c47e14bd0ff236feb956bc4cc60"), looks := false }, kinds := [], alts := [], laidByText := true, laidKinds := [.data, .data, .data], laidTests := true, laidLooks := .later }
def RationalInverseCardSaid : Prop := Claim7.holds Tryd.pinned (.plain (OpenSpec.ofChange rationalInverseSpec)) rationalInverseCard

/-- THE TIED CARD OF 'priceofficelaw02.RationalRounds'. -/
def rationalRoundsCard : Claim7 := { stood := { row := rationalRoundsRow, standIns := [], harness := (true, "0be9587ba7c6308f4860c6db582e1fd217cf0c47e14bd0ff236feb956bc4cc60"), looks := false }, kinds := [], alts := [], laidByText := true, laidKinds := [.data, .data, .data], laidTests := true, laidLooks := .later }
def RationalRoundsCardSaid : Prop := Claim7.holds Tryd.pinned (.plain (OpenSpec.ofChange rationalRoundsSpec)) rationalRoundsCard

/-- THE TIED CARD OF 'priceofficelaw02.RationalMonotone'. -/
def rationalMonotoneCard : Claim7 := { stood := { row := rationalMonotoneRow, standIns := [], harness := (true, "0be9587ba7c6308f4860c6db582e1fd217cf0c47e14bd0ff236feb956bc4cc60"), looks := false }, kinds := [], alts := [], laidByText := true, laidKinds := [.data, .data, .data], laidTests := true, laidLooks := .later }
def RationalMonotoneCardSaid : Prop := Claim7.holds Tryd.pinned (.plain (OpenSpec.ofChange rationalMonotoneSpec)) rationalMonotoneCard

/-- THE SECOND FORM's CARD OF 'priceofficelaw02.RationalSums'. -/
def rationalSumsUptoCard : Claim7 := { stood := { row := rationalSumsUptoRow, standIns := [], harness := (true, "0be9587ba7c6308f4860c6db582e1fd217cf0c47e14bd0ff236feb956bc4cc60"), looks := false }, kinds := [], alts := [], laidByText := true, laidKinds := [.data, .data, .data], laidTests := true, laidLooks := .later }
def RationalSumsUptoCardSaid : Prop := Claim7.holds Tryd.pinned (.plain (OpenSpec.upto rationalSumsSpec)) rationalSumsUptoCard

/-- THE SECOND FORM's CARD OF 'priceofficelaw02.RationalLists'. -/
def rationalListsUptoCard : Claim7 := { stood := { row := rationalListsUptoRow, standIns := [], harness := (true, "0be9587ba7c6308f4860c6db582e1fd217cf0c47e14bd0ff236feb956bc4cc60"), looks := false }, kinds := [], alts := [], laidByText := true, laidKinds := [.data, .data, .data], laidTests := true, laidLooks := .later }
def RationalListsUptoCardSaid : Prop := Claim7.holds Tryd.pinned (.plain (OpenSpec.upto rationalListsSpec)) rationalListsUptoCard

/-- THE SECOND FORM's CARD OF 'priceofficelaw02.RationalField'. -/
def rationalFieldUptoCard : Claim7 := { stood := { row := rationalFieldUptoRow, standIns := [], harness := (true, "0be9587ba7c6308f4860c6db582e1fd217cf0c47e14bd0ff236feb956bc4cc60"), looks := false }, kinds := [], alts := [], laidByText := true, laidKinds := [.data, .data, .data], laidTests := true, laidLooks := .later }
def RationalFieldUptoCardSaid : Prop := Claim7.holds Tryd.pinned (.plain (OpenSpec.upto rationalFieldSpec)) rationalFieldUptoCard

/-- THE SECOND FORM's CARD OF 'priceofficelaw02.RationalPowers'. -/
def rationalPowersUptoCard : Claim7 := { stood := { row := rationalPowersUptoRow, standIns := [], harness := (true, "0be9587ba7c6308f4860c6db582e1fd217cf0c47e14bd0ff236feb956bc4cc60"), looks := false }, kinds := [], alts := [], laidByText := true, laidKinds := [.data, .data, .data], laidTests := true, laidLooks := .later }
def RationalPowersUptoCardSaid : Prop := Claim7.holds Tryd.pinned (.plain (OpenSpec.upto rationalPowersSpec)) rationalPowersUptoCard

/-- THE SECOND FORM's CARD OF 'priceofficelaw02.RationalInverse'. -/
def rationalInverseUptoCard : Claim7 := { stood := { row := rationalInverseUptoRow, standIns := [], harness := (true, "0be9587ba7c6308f4860c6db582e1fd217cf0c47e14bd0ff236feb956bc4cc60"), looks := false }, kinds := [], alts := [], laidByText := true, laidKinds := [.data, .data, .data], laidTests := true, laidLooks := .later }
def RationalInverseUptoCardSaid : Prop := Claim7.holds Tryd.pinned (.plain (OpenSpec.upto rationalInverseSpec)) rationalInverseUptoCard

/-- THE SECOND FORM's CARD OF 'priceofficelaw02.RationalRounds'. -/
def rationalRoundsUptoCard : Claim7 := { stood := { row := rationalRoundsUptoRow, standIns := [], harness := (true, "0be9587ba7c6308f4860c6db582e1fd217cf0c47e14bd0ff236feb956bc4cc60"), looks := false }, kinds := [], alts := [], laidByText := true, laidKinds := [.data, .data, .data], laidTests := true, laidLooks := .later }
def RationalRoundsUptoCardSaid : Prop := Claim7.holds Tryd.pinned (.plain (OpenSpec.upto rationalRoundsSpec)) rationalRoundsUptoCard

/-- THE SECOND FORM's CARD OF 'priceofficelaw02.RationalMonotone'. -/
def rationalMonotoneUptoCard : Claim7 := { stood := { row := rationalMonotoneUptoRow, standIns := [], harness := (true, "0be9587ba7c6308f4860c6db582e1fd217cf0c47e14bd0ff236feb956bc4cc60"), looks := false }, kinds := [], alts := [], laidByText := true, laidKinds := [.data, .data, .data], laidTests := true, laidLooks := .later }
def RationalMonotoneUptoCardSaid : Prop := Claim7.holds Tryd.pinned (.plain (OpenSpec.upto rationalMonotoneSpec)) rationalMonotoneUptoCard
end Rows
end Go.Proofs.YtaefncebebonoaaDoor
