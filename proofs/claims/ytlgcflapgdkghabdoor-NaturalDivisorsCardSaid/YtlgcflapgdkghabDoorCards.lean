/-
  DERIVED. GIVEN WITH THE SEED: THE CARDS: each row of YtlgcflapgdkghabDoorRows.lean that lists a variable, with what it lists TIED to the program's text (the seventh form; the later family's looks); each row that meets fmt, with fmt's text TOLD by the authors' own Lean function (tested against real Go, not proved from fmt's source: count such statements apart). THE CARD IS WHAT COUNTS. Prove the row's statement (the work); the ties are given (YtlgcflapgdkghabDoorTie.lean); close each card by the builder's one call (the guide's Derived/Test/ToyasCard.lean, 'card_holds'). Laid BY PROGRAM, IN A SANDBOX (cutbox-door.mjs). By AI agents, Wed Nov 11 2026. No macro, syntax, notation, axiom, sorry.
-/
import Derived.Test.YtlgcflapgdkghabDoorRows
import GoSem.ClaimSeven
namespace Go.Proofs.YtlgcflapgdkghabDoor
namespace Rows

/-- THE TIED CARD OF 'priceofficelaw01.NaturalDivisors'. -/
def naturalDivisorsCard : Claim7 := { stood := { row := naturalDivisorsRow, standIns := [], harness := (true, "d6bc70ab9bf3257926b22720fcbd94490c5a462d2a0a2bfd412b82f2a551e583"), looks := false }, kinds := [], alts := [], laidByText := true, laidKinds := [.data, .data, .data], laidTests := true, laidLooks := .later }
def NaturalDivisorsCardSaid : Prop := Claim7.holds Tryd.pinned (.plain (OpenSpec.ofChange naturalDivisorsSpec)) naturalDivisorsCard

/-- THE TIED CARD OF 'priceofficelaw01.NaturalApart'. -/
def naturalApartCard : Claim7 := { stood := { row := naturalApartRow, standIns := [], harness := (true, "d6bc70ab9bf3257926b22720fcbd94490c5a462d2a0a2bfd412b82f2a551e583"), looks := false }, kinds := [], alts := [], laidByText := true, laidKinds := [.data, .data, .data], laidTests := true, laidLooks := .later }
def NaturalApartCardSaid : Prop := Claim7.holds Tryd.pinned (.plain (OpenSpec.ofChange naturalApartSpec)) naturalApartCard

/-- THE SECOND FORM's CARD OF 'priceofficelaw01.NaturalDivisors'. -/
def naturalDivisorsUptoCard : Claim7 := { stood := { row := naturalDivisorsUptoRow, standIns := [], harness := (true, "d6bc70ab9bf3257926b22720fcbd94490c5a462d2a0a2bfd412b82f2a551e583"), looks := false }, kinds := [], alts := [], laidByText := true, laidKinds := [.data, .data, .data], laidTests := true, laidLooks := .later }
def NaturalDivisorsUptoCardSaid : Prop := Claim7.holds Tryd.pinned (.plain (OpenSpec.upto naturalDivisorsSpec)) naturalDivisorsUptoCard

/-- THE SECOND FORM's CARD OF 'priceofficelaw01.NaturalApart'. -/
def naturalApartUptoCard : Claim7 := { stood := { row := naturalApartUptoRow, standIns := [], harness := (true, "d6bc70ab9bf3257926b22720fcbd94490c5a462d2a0a2bfd412b82f2a551e583"), looks := false }, kinds := [], alts := [], laidByText := true, laidKinds := [.data, .data, .data], laidTests := true, laidLooks := .later }
def NaturalApartUptoCardSaid : Prop := Claim7.holds Tryd.pinned (.plain (OpenSpec.upto naturalApartSpec)) naturalApartUptoCard
end Rows
end Go.Proofs.YtlgcflapgdkghabDoor
