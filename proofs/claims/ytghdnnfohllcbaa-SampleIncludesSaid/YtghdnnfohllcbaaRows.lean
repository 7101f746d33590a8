/-
  No cell of these rows narrows 'for every input' (looked for: loops, veiled, ifaces, maps, wideKeys, modest, calm, conditions, laid).
  DERIVED. THE GIVEN ROWS OF THIS SEAT. 5 by the template 'for every input the law returns true; each argument reads behind the call as it read before'; 0 by the template 'total and deterministic' (their statements: YtghdnnfohllcbaaTotals.lean).
  GIVEN WITH THE SEED: the statements are not yours to turn. If you find one false, say at which input.
  Laid BY PROGRAM, IN A SANDBOX (cutbox-rows.mjs): the forced cells as the released guide's own fill.sh prints them over the translation f5a4dc8f56252cec… (all of the seat's roots in one cut). By AI agents, Wed Nov 11 2026. No macro, syntax, notation, axiom, sorry.
-/
import Derived.Test.YtghdnnfohllcbaaChecked
import GoSem.Claim
import GoSem.ClaimJoined
import GoSem.ClaimMapViews
import Derived.JoinedTies
import Derived.KernelRfl
namespace Go.Proofs.Ytghdnnfohllcbaa
/- THE CELL 'sum', in the pinned program and in every row, IS THE sha256 OF THE DUMP (.gsa) THAT YtghdnnfohllcbaaProg.lean LOADS. Nothing in Lean hashes anything: it is a label: what it is worth is what the hold of that sum in a sandbox is worth. -/
noncomputable def Try.pinned : Pinned := { name := "ytghdnnfohllcbaa", sum := "f5a4dc8f56252cecda1acf60534bfac27b2fa58b747dc314f4eb8b9f7bfccb5f", checked := Try.checked }
namespace Rows
def none {H : Type} : Left H := { results := [], args := [] }

/-- 'priceofficelaw10.SampleAllocates': WHATEVER THE INPUT: true; the input reads as it did. -/
def sampleAllocatesSpec : ChangeSpec := { name := "sampleAllocates", fn := fun _ => fun
  | [d1, d2, d3] => { results := [.lit (.bool true)], args := [d1, d2, d3] }
  | _ => none }
def sampleAllocatesRow : OpenClaim := { program := "ytghdnnfohllcbaa", sum := "f5a4dc8f56252cecda1acf60534bfac27b2fa58b747dc314f4eb8b9f7bfccb5f", func := "priceoffice/priceofficelaw10.SampleAllocates", spec := "sampleAllocates", unfollowed := true, recurses := true, apart := false }
def SampleAllocatesSaid : Prop := sampleAllocatesRow.holds Try.pinned (OpenSpec.ofChange sampleAllocatesSpec)

/-- ITS FALSE NEIGHBOUR: 'it returns false'. Refute it at one input. -/
def sampleAllocatesWrong : ChangeSpec := { name := "sampleAllocates", fn := fun _ => fun
  | [d1, d2, d3] => { results := [.lit (.bool false)], args := [d1, d2, d3] }
  | _ => none }
def SampleAllocatesWrongFalsely : Prop := sampleAllocatesRow.holds Try.pinned (OpenSpec.ofChange sampleAllocatesWrong)

/-- 'priceofficelaw10.SampleShares': WHATEVER THE INPUT: true; the input reads as it did. -/
def sampleSharesSpec : ChangeSpec := { name := "sampleShares", fn := fun _ => fun
  | [d1, d2] => { results := [.lit (.bool true)], args := [d1, d2] }
  | _ => none }
def sampleSharesRow : OpenClaim := { program := "ytghdnnfohllcbaa", sum := "f5a4dc8f56252cecda1acf60534bfac27b2fa58b747dc314f4eb8b9f7bfccb5f", func := "priceoffice/priceofficelaw10.SampleShares", spec := "sampleShares", unfollowed := true, recurses := true, apart := false }
def SampleSharesSaid : Prop := sampleSharesRow.holds Try.pinned (OpenSpec.ofChange sampleSharesSpec)

/-- ITS FALSE NEIGHBOUR: 'it returns false'. Refute it at one input. -/
def sampleSharesWrong : ChangeSpec := { name := "sampleShares", fn := fun _ => fun
  | [d1, d2] => { results := [.lit (.bool false)], args := [d1, d2] }
  | _ => none }
def SampleSharesWrongFalsely : Prop := sampleSharesRow.holds Try.pinned (OpenSpec.ofChange sampleSharesWrong)

/-- 'priceofficelaw10.SampleIncludes': WHATEVER THE INPUT: true; the input reads as it did. -/
def sampleIncludesSpec : ChangeSpec := { name := "sampleIncludes", fn := fun _ => fun
  | [d1, d2, d3] => { results := [.lit (.bool true)], args := [d1, d2, d3] }
  | _ => none }
def sampleIncludesRow : OpenClaim := { program := "ytghdnnfohllcbaa", sum := "f5a4dc8f56252cecda1acf60534bfac27b2fa58b747dc314f4eb8b9f7bfccb5f", func := "priceoffice/priceofficelaw10.SampleIncludes", spec := "sampleIncludes", unfollowed := true, recurses := true, apart := false }
def SampleIncludesSaid : Prop := sampleIncludesRow.holds Try.pinned (OpenSpec.ofChange sampleIncludesSpec)

/-- ITS FALSE NEIGHBOUR: 'it returns false'. Refute it at one input. -/
def sampleIncludesWrong : ChangeSpec := { name := "sampleIncludes", fn := fun _ => fun
  | [d1, d2, d3] => { results := [.lit (.bool false)], args := [d1, d2, d3] }
  | _ => none }
def SampleIncludesWrongFalsely : Prop := sampleIncludesRow.holds Try.pinned (OpenSpec.ofChange sampleIncludesWrong)

/-- 'priceofficelaw10.SampleEstimates': WHATEVER THE INPUT: true; the input reads as it did. -/
def sampleEstimatesSpec : ChangeSpec := { name := "sampleEstimates", fn := fun _ => fun
  | [d1, d2, d3] => { results := [.lit (.bool true)], args := [d1, d2, d3] }
  | _ => none }
def sampleEstimatesRow : OpenClaim := { program := "ytghdnnfohllcbaa", sum := "f5a4dc8f56252cecda1acf60534bfac27b2fa58b747dc314f4eb8b9f7bfccb5f", func := "priceoffice/priceofficelaw10.SampleEstimates", spec := "sampleEstimates", unfollowed := true, recurses := true, apart := false }
def SampleEstimatesSaid : Prop := sampleEstimatesRow.holds Try.pinned (OpenSpec.ofChange sampleEstimatesSpec)

/-- ITS FALSE NEIGHBOUR: 'it returns false'. Refute it at one input. -/
def sampleEstimatesWrong : ChangeSpec := { name := "sampleEstimates", fn := fun _ => fun
  | [d1, d2, d3] => { results := [.lit (.bool false)], args := [d1, d2, d3] }
  | _ => none }
def SampleEstimatesWrongFalsely : Prop := sampleEstimatesRow.holds Try.pinned (OpenSpec.ofChange sampleEstimatesWrong)

/-- 'priceofficelaw10.SampleRotates': WHATEVER THE INPUT: true; the input reads as it did. -/
def sampleRotatesSpec : ChangeSpec := { name := "sampleRotates", fn := fun _ => fun
  | [d1, d2, d3, d4] => { results := [.lit (.bool true)], args := [d1, d2, d3, d4] }
  | _ => none }
def sampleRotatesRow : OpenClaim := { program := "ytghdnnfohllcbaa", sum := "f5a4dc8f56252cecda1acf60534bfac27b2fa58b747dc314f4eb8b9f7bfccb5f", func := "priceoffice/priceofficelaw10.SampleRotates", spec := "sampleRotates", unfollowed := true, recurses := true, apart := false }
def SampleRotatesSaid : Prop := sampleRotatesRow.holds Try.pinned (OpenSpec.ofChange sampleRotatesSpec)

/-- ITS FALSE NEIGHBOUR: 'it returns false'. Refute it at one input. -/
def sampleRotatesWrong : ChangeSpec := { name := "sampleRotates", fn := fun _ => fun
  | [d1, d2, d3, d4] => { results := [.lit (.bool false)], args := [d1, d2, d3, d4] }
  | _ => none }
def SampleRotatesWrongFalsely : Prop := sampleRotatesRow.holds Try.pinned (OpenSpec.ofChange sampleRotatesWrong)

/- THE SECOND FORM. 'bulk': how many values and letters a reading holds, each counted each time it is reached (what is shared counts as often as it is met; a slice's spare places count too). A statement '..UptoSaid' is the law's where the arguments, and the package variables that the reading takes, are together of bulk at most 1048576: NARROWER than '..Said'. Prove '..Said' where nothing that the law and all that it calls make is longer than what came in: it says more and counts as full. Else prove '..UptoSaid'. A law counts once. -/
mutual
def uptoBulk {H : Type} : DataW H → Nat
  | .lit (.string bytes) => bytes.length + 1
  | .lit _ => 1
  | .nil => 1
  | .ptr d => uptoBulk d + 1
  | .slice elems spare => uptoBulkAll elems + uptoBulkAll spare + 1
  | .agg parts => uptoBulkAll parts + 1
  | .iface _ d => uptoBulk d + 1
  | .map entries => uptoBulkEntries entries + 1
  | .held _ => 1
def uptoBulkAll {H : Type} : List (DataW H) → Nat
  | [] => 0
  | d :: r => uptoBulk d + uptoBulkAll r
def uptoBulkEntries {H : Type} : List (Lit × DataW H) → Nat
  | [] => 0
  | x :: r => uptoBulkEntry x + uptoBulkEntries r
def uptoBulkEntry {H : Type} : Lit × DataW H → Nat
  | (.string bytes, d) => bytes.length + uptoBulk d + 1
  | (_, d) => uptoBulk d + 1
 end
def uptoSmall : (H : Type) → List (DataW H) → Bool := fun _ ds => decide (uptoBulkAll ds ≤ 1048576)
def OpenSpec.upto (s : _root_.Go.ChangeSpec) : _root_.Go.OpenSpec := { _root_.Go.OpenSpec.ofChange s with cond := some uptoSmall }

/-- 'priceofficelaw10.SampleAllocates', WHERE WHAT IT READS IS OF BULK AT MOST 1048576: true; the input reads as it did. -/
def sampleAllocatesUptoRow : OpenClaim := { program := "ytghdnnfohllcbaa", sum := "f5a4dc8f56252cecda1acf60534bfac27b2fa58b747dc314f4eb8b9f7bfccb5f", func := "priceoffice/priceofficelaw10.SampleAllocates", spec := "sampleAllocates", unfollowed := true, recurses := true, apart := false, narrowed := true }
def SampleAllocatesUptoSaid : Prop := sampleAllocatesUptoRow.holds Try.pinned (OpenSpec.upto sampleAllocatesSpec)

/-- 'priceofficelaw10.SampleShares', WHERE WHAT IT READS IS OF BULK AT MOST 1048576: true; the input reads as it did. -/
def sampleSharesUptoRow : OpenClaim := { program := "ytghdnnfohllcbaa", sum := "f5a4dc8f56252cecda1acf60534bfac27b2fa58b747dc314f4eb8b9f7bfccb5f", func := "priceoffice/priceofficelaw10.SampleShares", spec := "sampleShares", unfollowed := true, recurses := true, apart := false, narrowed := true }
def SampleSharesUptoSaid : Prop := sampleSharesUptoRow.holds Try.pinned (OpenSpec.upto sampleSharesSpec)

/-- 'priceofficelaw10.SampleIncludes', WHERE WHAT IT READS IS OF BULK AT MOST 1048576: true; the input reads as it did. -/
def sampleIncludesUptoRow : OpenClaim := { program := "ytghdnnfohllcbaa", sum := "f5a4dc8f56252cecda1acf60534bfac27b2fa58b747dc314f4eb8b9f7bfccb5f", func := "priceoffice/priceofficelaw10.SampleIncludes", spec := "sampleIncludes", unfollowed := true, recurses := true, apart := false, narrowed := true }
def SampleIncludesUptoSaid : Prop := sampleIncludesUptoRow.holds Try.pinned (OpenSpec.upto sampleIncludesSpec)

/-- 'priceofficelaw10.SampleEstimates', WHERE WHAT IT READS IS OF BULK AT MOST 1048576: true; the input reads as it did. -/
def sampleEstimatesUptoRow : OpenClaim := { program := "ytghdnnfohllcbaa", sum := "f5a4dc8f56252cecda1acf60534bfac27b2fa58b747dc314f4eb8b9f7bfccb5f", func := "priceoffice/priceofficelaw10.SampleEstimates", spec := "sampleEstimates", unfollowed := true, recurses := true, apart := false, narrowed := true }
def SampleEstimatesUptoSaid : Prop := sampleEstimatesUptoRow.holds Try.pinned (OpenSpec.upto sampleEstimatesSpec)

/-- 'priceofficelaw10.SampleRotates', WHERE WHAT IT READS IS OF BULK AT MOST 1048576: true; the input reads as it did. -/
def sampleRotatesUptoRow : OpenClaim := { program := "ytghdnnfohllcbaa", sum := "f5a4dc8f56252cecda1acf60534bfac27b2fa58b747dc314f4eb8b9f7bfccb5f", func := "priceoffice/priceofficelaw10.SampleRotates", spec := "sampleRotates", unfollowed := true, recurses := true, apart := false, narrowed := true }
def SampleRotatesUptoSaid : Prop := sampleRotatesUptoRow.holds Try.pinned (OpenSpec.upto sampleRotatesSpec)

end Rows
end Go.Proofs.Ytghdnnfohllcbaa
