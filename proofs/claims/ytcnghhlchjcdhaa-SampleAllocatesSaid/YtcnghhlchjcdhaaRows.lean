/-
  No cell of these rows narrows 'for every input' (looked for: loops, veiled, ifaces, maps, wideKeys, modest, calm, conditions, laid).
  DERIVED. THE GIVEN ROWS OF THIS SEAT. 2 by the template 'for every input the law returns true; each argument reads behind the call as it read before'; 0 by the template 'total and deterministic' (their statements: YtcnghhlchjcdhaaTotals.lean).
  GIVEN WITH THE SEED: the statements are not yours to turn. If you find one false, say at which input.
  Laid BY PROGRAM, IN A SANDBOX (cutbox-rows.mjs): the forced cells as the released guide's own fill.sh prints them over the translation 65088182f7dfb2e8… (all of the seat's roots in one cut). By AI agents, Wed Nov 11 2026. No macro, syntax, notation, axiom, sorry.
-/
import Derived.Test.YtcnghhlchjcdhaaChecked
import GoSem.Claim
import GoSem.ClaimJoined
import GoSem.ClaimMapViews
import Derived.JoinedTies
import Derived.KernelRfl
namespace Go.Proofs.Ytcnghhlchjcdhaa
/- THE CELL 'sum', in the pinned program and in every row, IS THE sha256 OF THE DUMP (.gsa) THAT YtcnghhlchjcdhaaProg.lean LOADS. Nothing in Lean hashes anything: it is a label: what it is worth is what the hold of that sum in a sandbox is worth. -/
noncomputable def Try.pinned : Pinned := { name := "ytcnghhlchjcdhaa", sum := "65088182f7dfb2e80b95219b757f756c474b273f8934402f61ff53ffde09bf12", checked := Try.checked }
namespace Rows
def none {H : Type} : Left H := { results := [], args := [] }

/-- 'priceofficelaw10.SampleAllocates': WHATEVER THE INPUT: true; the input reads as it did. -/
def sampleAllocatesSpec : ChangeSpec := { name := "sampleAllocates", fn := fun _ => fun
  | [d1, d2, d3] => { results := [.lit (.bool true)], args := [d1, d2, d3] }
  | _ => none }
def sampleAllocatesRow : OpenClaim := { program := "ytcnghhlchjcdhaa", sum := "65088182f7dfb2e80b95219b757f756c474b273f8934402f61ff53ffde09bf12", func := "priceoffice/priceofficelaw10.SampleAllocates", spec := "sampleAllocates", unfollowed := true, recurses := true, apart := false }
def SampleAllocatesSaid : Prop := sampleAllocatesRow.holds Try.pinned (OpenSpec.ofChange sampleAllocatesSpec)

/-- ITS FALSE NEIGHBOUR: 'it returns false'. Refute it at one input. -/
def sampleAllocatesWrong : ChangeSpec := { name := "sampleAllocates", fn := fun _ => fun
  | [d1, d2, d3] => { results := [.lit (.bool false)], args := [d1, d2, d3] }
  | _ => none }
def SampleAllocatesWrongFalsely : Prop := sampleAllocatesRow.holds Try.pinned (OpenSpec.ofChange sampleAllocatesWrong)

/-- 'priceofficelaw10.SampleShares': WHATEVER THE INPUT: true; the input reads as it did. -/
def sampleSharesSpec : ChangeSpec := { name := "sampleShares", fn := fun _ => fun
  | [d1, d2] => { results := [.lit (.bool true)], args := [d1, d2] }
  | _ => none }
def sampleSharesRow : OpenClaim := { program := "ytcnghhlchjcdhaa", sum := "65088182f7dfb2e80b95219b757f756c474b273f8934402f61ff53ffde09bf12", func := "priceoffice/priceofficelaw10.SampleShares", spec := "sampleShares", unfollowed := true, recurses := true, apart := false }
def SampleSharesSaid : Prop := sampleSharesRow.holds Try.pinned (OpenSpec.ofChange sampleSharesSpec)

/-- ITS FALSE NEIGHBOUR: 'it returns false'. Refute it at one input. -/
def sampleSharesWrong : ChangeSpec := { name := "sampleShares", fn := fun _ => fun
  | [d1, d2] => { results := [.lit (.bool false)], args := [d1, d2] }
  | _ => none }
def SampleSharesWrongFalsely : Prop := sampleSharesRow.holds Try.pinned (OpenSpec.ofChange sampleSharesWrong)

/- THE SECOND FORM. 'bulk': how many values and letters a reading holds, each counted each time it is reached (what is shared counts as often as it is met; a slice's spare places count too). A statement '..UptoSaid' is the law's where the arguments, and the package variables that the reading takes, are together of bulk at most 1048576: NARROWER than '..Said'. Prove '..Said' where nothing that the law and all that it calls make is longer than what came in: it says more and counts as full. Else prove '..UptoSaid'. A law counts once. -/
mutual
def uptoBulk {H : Type} : DataW H → Nat
  | .lit (.string bytes) => bytes.length + 1
  | .lit _ => 1
  | .nil => 1
  | .ptr d => uptoBulk d + 1
  | .slice elems spare => uptoBulkAll elems + uptoBulkAll spare + 1
  | .agg parts => uptoBulkAll parts + 1
  | .iface _ d => uptoBulk d + 1
  | .map entries => uptoBulkEntries entries + 1
  | .held _ => 1
def uptoBulkAll {H : Type} : List (DataW H) → Nat
  | [] => 0
  | d :: r => uptoBulk d + uptoBulkAll r
def uptoBulkEntries {H : Type} : List (Lit × DataW H) → Nat
  | [] => 0
  | x :: r => uptoBulkEntry x + uptoBulkEntries r
def uptoBulkEntry {H : Type} : Lit × DataW H → Nat
  | (.string bytes, d) => bytes.length + uptoBulk d + 1
  | (_, d) => uptoBulk d + 1
 end
def uptoSmall : (H : Type) → List (DataW H) → Bool := fun _ ds => decide (uptoBulkAll ds ≤ 1048576)
def OpenSpec.upto (s : _root_.Go.ChangeSpec) : _root_.Go.OpenSpec := { _root_.Go.OpenSpec.ofChange s with cond := some uptoSmall }

/-- 'priceofficelaw10.SampleAllocates', WHERE WHAT IT READS IS OF BULK AT MOST 1048576: true; the input reads as it did. -/
def sampleAllocatesUptoRow : OpenClaim := { program := "ytcnghhlchjcdhaa", sum := "65088182f7dfb2e80b95219b757f756c474b273f8934402f61ff53ffde09bf12", func := "priceoffice/priceofficelaw10.SampleAllocates", spec := "sampleAllocates", unfollowed := true, recurses := true, apart := false, narrowed := true }
def SampleAllocatesUptoSaid : Prop := sampleAllocatesUptoRow.holds Try.pinned (OpenSpec.upto sampleAllocatesSpec)

/-- 'priceofficelaw10.SampleShares', WHERE WHAT IT READS IS OF BULK AT MOST 1048576: true; the input reads as it did. -/
def sampleSharesUptoRow : OpenClaim := { program := "ytcnghhlchjcdhaa", sum := "65088182f7dfb2e80b95219b757f756c474b273f8934402f61ff53ffde09bf12", func := "priceoffice/priceofficelaw10.SampleShares", spec := "sampleShares", unfollowed := true, recurses := true, apart := false, narrowed := true }
def SampleSharesUptoSaid : Prop := sampleSharesUptoRow.holds Try.pinned (OpenSpec.upto sampleSharesSpec)

end Rows
end Go.Proofs.Ytcnghhlchjcdhaa
