/-
  No cell of these rows narrows 'for every input' (looked for: loops, veiled, ifaces, maps, wideKeys, modest, calm, conditions, laid).
  DERIVED. THE GIVEN ROWS OF THIS SEAT. 3 by the template 'for every input the law returns true; each argument reads behind the call as it read before'; 0 by the template 'total and deterministic' (their statements: YtmhjimcdiglpcaaGreatTotals.lean).
  GIVEN WITH THE SEED: the statements are not yours to turn. If you find one false, say at which input.
  Laid BY PROGRAM, IN A SANDBOX (cutbox-rows.mjs): the forced cells as the released guide's own fill.sh prints them over the translation 71a58e1e11a8273b… (all of the seat's roots in one cut). By AI agents, Wed Nov 11 2026. No macro, syntax, notation, axiom, sorry.
-/
import Derived.Test.YtmhjimcdiglpcaaGreatChecked
import GoSem.Claim
import GoSem.ClaimJoined
import GoSem.ClaimMapViews
import Derived.JoinedTies
import Derived.KernelRfl
namespace Go.Proofs.YtmhjimcdiglpcaaGreat
/- THE CELL 'sum', in the pinned program and in every row, IS THE sha256 OF THE DUMP (.gsa) THAT YtmhjimcdiglpcaaGreatProg.lean LOADS. Nothing in Lean hashes anything: it is a label: what it is worth is what the hold of that sum in a sandbox is worth. -/
noncomputable def Tryz.pinned : Pinned := { name := "ytmhjimcdiglpcaagreat", sum := "71a58e1e11a8273be8c5dad37b957a15fcbe9563edb8d4bd0d582b315d060fb2", checked := Tryz.checked }
namespace Rows
def none {H : Type} : Left H := { results := [], args := [] }

/-- 'priceofficelaw10.SampleCounts': WHATEVER THE INPUT: true; the input reads as it did. -/
def sampleCountsSpec : ChangeSpec := { name := "sampleCounts", fn := fun _ => fun
  | [d] => { results := [.lit (.bool true)], args := [d] }
  | _ => none }
def sampleCountsRow : OpenClaim := { program := "ytmhjimcdiglpcaagreat", sum := "71a58e1e11a8273be8c5dad37b957a15fcbe9563edb8d4bd0d582b315d060fb2", func := "priceoffice/priceofficelaw10.SampleCounts", spec := "sampleCounts", unfollowed := true, recurses := true, apart := false }
def SampleCountsSaid : Prop := sampleCountsRow.holds Tryz.pinned (OpenSpec.ofChange sampleCountsSpec)

/-- ITS FALSE NEIGHBOUR: 'it returns false'. Refute it at one input. -/
def sampleCountsWrong : ChangeSpec := { name := "sampleCounts", fn := fun _ => fun
  | [d] => { results := [.lit (.bool false)], args := [d] }
  | _ => none }
def SampleCountsWrongFalsely : Prop := sampleCountsRow.holds Tryz.pinned (OpenSpec.ofChange sampleCountsWrong)

/-- 'priceofficelaw10.SampleBreaks': WHATEVER THE INPUT: true; the input reads as it did. -/
def sampleBreaksSpec : ChangeSpec := { name := "sampleBreaks", fn := fun _ => fun
  | [d1, d2, d3] => { results := [.lit (.bool true)], args := [d1, d2, d3] }
  | _ => none }
def sampleBreaksRow : OpenClaim := { program := "ytmhjimcdiglpcaagreat", sum := "71a58e1e11a8273be8c5dad37b957a15fcbe9563edb8d4bd0d582b315d060fb2", func := "priceoffice/priceofficelaw10.SampleBreaks", spec := "sampleBreaks", unfollowed := true, recurses := true, apart := false }
def SampleBreaksSaid : Prop := sampleBreaksRow.holds Tryz.pinned (OpenSpec.ofChange sampleBreaksSpec)

/-- ITS FALSE NEIGHBOUR: 'it returns false'. Refute it at one input. -/
def sampleBreaksWrong : ChangeSpec := { name := "sampleBreaks", fn := fun _ => fun
  | [d1, d2, d3] => { results := [.lit (.bool false)], args := [d1, d2, d3] }
  | _ => none }
def SampleBreaksWrongFalsely : Prop := sampleBreaksRow.holds Tryz.pinned (OpenSpec.ofChange sampleBreaksWrong)

/-- 'priceofficelaw10.SampleExact': WHATEVER THE INPUT: true; the input reads as it did. -/
def sampleExactSpec : ChangeSpec := { name := "sampleExact", fn := fun _ => fun
  | [d] => { results := [.lit (.bool true)], args := [d] }
  | _ => none }
def sampleExactRow : OpenClaim := { program := "ytmhjimcdiglpcaagreat", sum := "71a58e1e11a8273be8c5dad37b957a15fcbe9563edb8d4bd0d582b315d060fb2", func := "priceoffice/priceofficelaw10.SampleExact", spec := "sampleExact", unfollowed := true, recurses := true, apart := false }
def SampleExactSaid : Prop := sampleExactRow.holds Tryz.pinned (OpenSpec.ofChange sampleExactSpec)

/-- ITS FALSE NEIGHBOUR: 'it returns false'. Refute it at one input. -/
def sampleExactWrong : ChangeSpec := { name := "sampleExact", fn := fun _ => fun
  | [d] => { results := [.lit (.bool false)], args := [d] }
  | _ => none }
def SampleExactWrongFalsely : Prop := sampleExactRow.holds Tryz.pinned (OpenSpec.ofChange sampleExactWrong)

/- THE SECOND FORM. 'bulk': how many values and letters a reading holds, each counted each time it is reached (what is shared counts as often as it is met; a slice's spare places count too). A statement '..UptoSaid' is the law's where the arguments, and the package variables that the reading takes, are together of bulk at most 1048576: NARROWER than '..Said'. Prove '..Said' where nothing that the law and all that it calls make is longer than what came in: it says more and counts as full. Else prove '..UptoSaid'. A law counts once. -/
mutual
def uptoBulk {H : Type} : DataW H → Nat
  | .lit (.string bytes) => bytes.length + 1
  | .lit _ => 1
  | .nil => 1
  | .ptr d => uptoBulk d + 1
  | .slice elems spare => uptoBulkAll elems + uptoBulkAll spare + 1
  | .agg parts => uptoBulkAll parts + 1
  | .iface _ d => uptoBulk d + 1
  | .map entries => uptoBulkEntries entries + 1
  | .held _ => 1
def uptoBulkAll {H : Type} : List (DataW H) → Nat
  | [] => 0
  | d :: r => uptoBulk d + uptoBulkAll r
def uptoBulkEntries {H : Type} : List (Lit × DataW H) → Nat
  | [] => 0
  | x :: r => uptoBulkEntry x + uptoBulkEntries r
def uptoBulkEntry {H : Type} : Lit × DataW H → Nat
  | (.string bytes, d) => bytes.length + uptoBulk d + 1
  | (_, d) => uptoBulk d + 1
 end
def uptoSmall : (H : Type) → List (DataW H) → Bool := fun _ ds => decide (uptoBulkAll ds ≤ 1048576)
def OpenSpec.upto (s : _root_.Go.ChangeSpec) : _root_.Go.OpenSpec := { _root_.Go.OpenSpec.ofChange s with cond := some uptoSmall }

/-- 'priceofficelaw10.SampleCounts', WHERE WHAT IT READS IS OF BULK AT MOST 1048576: true; the input reads as it did. -/
def sampleCountsUptoRow : OpenClaim := { program := "ytmhjimcdiglpcaagreat", sum := "71a58e1e11a8273be8c5dad37b957a15fcbe9563edb8d4bd0d582b315d060fb2", func := "priceoffice/priceofficelaw10.SampleCounts", spec := "sampleCounts", unfollowed := true, recurses := true, apart := false, narrowed := true }
def SampleCountsUptoSaid : Prop := sampleCountsUptoRow.holds Tryz.pinned (OpenSpec.upto sampleCountsSpec)

/-- 'priceofficelaw10.SampleBreaks', WHERE WHAT IT READS IS OF BULK AT MOST 1048576: true; the input reads as it did. -/
def sampleBreaksUptoRow : OpenClaim := { program := "ytmhjimcdiglpcaagreat", sum := "71a58e1e11a8273be8c5dad37b957a15fcbe9563edb8d4bd0d582b315d060fb2", func := "priceoffice/priceofficelaw10.SampleBreaks", spec := "sampleBreaks", unfollowed := true, recurses := true, apart := false, narrowed := true }
def SampleBreaksUptoSaid : Prop := sampleBreaksUptoRow.holds Tryz.pinned (OpenSpec.upto sampleBreaksSpec)

/-- 'priceofficelaw10.SampleExact', WHERE WHAT IT READS IS OF BULK AT MOST 1048576: true; the input reads as it did. -/
def sampleExactUptoRow : OpenClaim := { program := "ytmhjimcdiglpcaagreat", sum := "71a58e1e11a8273be8c5dad37b957a15fcbe9563edb8d4bd0d582b315d060fb2", func := "priceoffice/priceofficelaw10.SampleExact", spec := "sampleExact", unfollowed := true, recurses := true, apart := false, narrowed := true }
def SampleExactUptoSaid : Prop := sampleExactUptoRow.holds Tryz.pinned (OpenSpec.upto sampleExactSpec)

end Rows
end Go.Proofs.YtmhjimcdiglpcaaGreat
