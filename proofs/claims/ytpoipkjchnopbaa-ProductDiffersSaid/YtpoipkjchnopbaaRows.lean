/-
  No cell of these rows narrows 'for every input' (looked for: loops, veiled, ifaces, maps, wideKeys, modest, calm, conditions, laid).
  DERIVED. THE GIVEN ROWS OF THIS SEAT. 3 by the template 'for every input the law returns true; each argument reads behind the call as it read before'; 0 by the template 'total and deterministic' (their statements: YtpoipkjchnopbaaTotals.lean).
  GIVEN WITH THE SEED: the statements are not yours to turn. If you find one false, say at which input.
  Laid BY PROGRAM, IN A SANDBOX (cutbox-rows.mjs): the forced cells as the released guide's own fill.sh prints them over the translation e8bf362d7ff4b643… (all of the seat's roots in one cut). By AI agents, Wed Nov 11 2026. No macro, syntax, notation, axiom, sorry.
-/
import Derived.Test.YtpoipkjchnopbaaChecked
import GoSem.Claim
import GoSem.ClaimJoined
import GoSem.ClaimMapViews
import Derived.JoinedTies
import Derived.KernelRfl
namespace Go.Proofs.Ytpoipkjchnopbaa
/- THE CELL 'sum', in the pinned program and in every row, IS THE sha256 OF THE DUMP (.gsa) THAT YtpoipkjchnopbaaProg.lean LOADS. Nothing in Lean hashes anything: it is a label: what it is worth is what the hold of that sum in a sandbox is worth. -/
noncomputable def Try.pinned : Pinned := { name := "ytpoipkjchnopbaa", sum := "e8bf362d7ff4b643b558d01cc5be6703305375cf99b3e9bbae1bde3309731bbd", checked := Try.checked }
namespace Rows
def none {H : Type} : Left H := { results := [], args := [] }

/-- 'priceofficelaw09.ProductNormal': WHATEVER THE INPUT: true; the input reads as it did. -/
def productNormalSpec : ChangeSpec := { name := "productNormal", fn := fun _ => fun
  | [d1, d2] => { results := [.lit (.bool true)], args := [d1, d2] }
  | _ => none }
def productNormalRow : OpenClaim := { program := "ytpoipkjchnopbaa", sum := "e8bf362d7ff4b643b558d01cc5be6703305375cf99b3e9bbae1bde3309731bbd", func := "priceoffice/priceofficelaw09.ProductNormal", spec := "productNormal", inPlace := ["internal/bytealg.abigen_runtime_cmpstring", "internal/abi.NoEscape", "internal/bytealg.MakeNoZero"], unfollowed := true, recurses := true, plainKeys := false, apart := false }
def ProductNormalSaid : Prop := productNormalRow.holds Try.pinned (OpenSpec.ofChange productNormalSpec)

/-- ITS FALSE NEIGHBOUR: 'it returns false'. Refute it at one input. -/
def productNormalWrong : ChangeSpec := { name := "productNormal", fn := fun _ => fun
  | [d1, d2] => { results := [.lit (.bool false)], args := [d1, d2] }
  | _ => none }
def ProductNormalWrongFalsely : Prop := productNormalRow.holds Try.pinned (OpenSpec.ofChange productNormalWrong)

/-- 'priceofficelaw09.ProductKeys': WHATEVER THE INPUT: true; the input reads as it did. -/
def productKeysSpec : ChangeSpec := { name := "productKeys", fn := fun _ => fun
  | [d] => { results := [.lit (.bool true)], args := [d] }
  | _ => none }
def productKeysRow : OpenClaim := { program := "ytpoipkjchnopbaa", sum := "e8bf362d7ff4b643b558d01cc5be6703305375cf99b3e9bbae1bde3309731bbd", func := "priceoffice/priceofficelaw09.ProductKeys", spec := "productKeys", inPlace := ["internal/bytealg.abigen_runtime_cmpstring", "internal/abi.NoEscape", "internal/bytealg.MakeNoZero"], unfollowed := true, recurses := true, plainKeys := false, apart := false }
def ProductKeysSaid : Prop := productKeysRow.holds Try.pinned (OpenSpec.ofChange productKeysSpec)

/-- ITS FALSE NEIGHBOUR: 'it returns false'. Refute it at one input. -/
def productKeysWrong : ChangeSpec := { name := "productKeys", fn := fun _ => fun
  | [d] => { results := [.lit (.bool false)], args := [d] }
  | _ => none }
def ProductKeysWrongFalsely : Prop := productKeysRow.holds Try.pinned (OpenSpec.ofChange productKeysWrong)

/-- 'priceofficelaw09.ProductDiffers': WHATEVER THE INPUT: true; the input reads as it did. -/
def productDiffersSpec : ChangeSpec := { name := "productDiffers", fn := fun _ => fun
  | [d1, d2, d3] => { results := [.lit (.bool true)], args := [d1, d2, d3] }
  | _ => none }
def productDiffersRow : OpenClaim := { program := "ytpoipkjchnopbaa", sum := "e8bf362d7ff4b643b558d01cc5be6703305375cf99b3e9bbae1bde3309731bbd", func := "priceoffice/priceofficelaw09.ProductDiffers", spec := "productDiffers", recurses := true, plainKeys := false, apart := false }
def ProductDiffersSaid : Prop := productDiffersRow.holds Try.pinned (OpenSpec.ofChange productDiffersSpec)

/-- ITS FALSE NEIGHBOUR: 'it returns false'. Refute it at one input. -/
def productDiffersWrong : ChangeSpec := { name := "productDiffers", fn := fun _ => fun
  | [d1, d2, d3] => { results := [.lit (.bool false)], args := [d1, d2, d3] }
  | _ => none }
def ProductDiffersWrongFalsely : Prop := productDiffersRow.holds Try.pinned (OpenSpec.ofChange productDiffersWrong)

/- THE SECOND FORM. 'bulk': how many values and letters a reading holds, each counted each time it is reached (what is shared counts as often as it is met; a slice's spare places count too). A statement '..UptoSaid' is the law's where the arguments, and the package variables that the reading takes, are together of bulk at most 1048576: NARROWER than '..Said'. Prove '..Said' where nothing that the law and all that it calls make is longer than what came in: it says more and counts as full. Else prove '..UptoSaid'. A law counts once. -/
mutual
def uptoBulk {H : Type} : DataW H → Nat
  | .lit (.string bytes) => bytes.length + 1
  | .lit _ => 1
  | .nil => 1
  | .ptr d => uptoBulk d + 1
  | .slice elems spare => uptoBulkAll elems + uptoBulkAll spare + 1
  | .agg parts => uptoBulkAll parts + 1
  | .iface _ d => uptoBulk d + 1
  | .map entries => uptoBulkEntries entries + 1
  | .held _ => 1
def uptoBulkAll {H : Type} : List (DataW H) → Nat
  | [] => 0
  | d :: r => uptoBulk d + uptoBulkAll r
def uptoBulkEntries {H : Type} : List (Lit × DataW H) → Nat
  | [] => 0
  | x :: r => uptoBulkEntry x + uptoBulkEntries r
def uptoBulkEntry {H : Type} : Lit × DataW H → Nat
  | (.string bytes, d) => bytes.length + uptoBulk d + 1
  | (_, d) => uptoBulk d + 1
 end
def uptoSmall : (H : Type) → List (DataW H) → Bool := fun _ ds => decide (uptoBulkAll ds ≤ 1048576)
def OpenSpec.upto (s : _root_.Go.ChangeSpec) : _root_.Go.OpenSpec := { _root_.Go.OpenSpec.ofChange s with cond := some uptoSmall }

/-- 'priceofficelaw09.ProductNormal', WHERE WHAT IT READS IS OF BULK AT MOST 1048576: true; the input reads as it did. -/
def productNormalUptoRow : OpenClaim := { program := "ytpoipkjchnopbaa", sum := "e8bf362d7ff4b643b558d01cc5be6703305375cf99b3e9bbae1bde3309731bbd", func := "priceoffice/priceofficelaw09.ProductNormal", spec := "productNormal", inPlace := ["internal/bytealg.abigen_runtime_cmpstring", "internal/abi.NoEscape", "internal/bytealg.MakeNoZero"], unfollowed := true, recurses := true, plainKeys := false, apart := false, narrowed := true }
def ProductNormalUptoSaid : Prop := productNormalUptoRow.holds Try.pinned (OpenSpec.upto productNormalSpec)

/-- 'priceofficelaw09.ProductKeys', WHERE WHAT IT READS IS OF BULK AT MOST 1048576: true; the input reads as it did. -/
def productKeysUptoRow : OpenClaim := { program := "ytpoipkjchnopbaa", sum := "e8bf362d7ff4b643b558d01cc5be6703305375cf99b3e9bbae1bde3309731bbd", func := "priceoffice/priceofficelaw09.ProductKeys", spec := "productKeys", inPlace := ["internal/bytealg.abigen_runtime_cmpstring", "internal/abi.NoEscape", "internal/bytealg.MakeNoZero"], unfollowed := true, recurses := true, plainKeys := false, apart := false, narrowed := true }
def ProductKeysUptoSaid : Prop := productKeysUptoRow.holds Try.pinned (OpenSpec.upto productKeysSpec)

/-- 'priceofficelaw09.ProductDiffers', WHERE WHAT IT READS IS OF BULK AT MOST 1048576: true; the input reads as it did. -/
def productDiffersUptoRow : OpenClaim := { program := "ytpoipkjchnopbaa", sum := "e8bf362d7ff4b643b558d01cc5be6703305375cf99b3e9bbae1bde3309731bbd", func := "priceoffice/priceofficelaw09.ProductDiffers", spec := "productDiffers", recurses := true, plainKeys := false, apart := false, narrowed := true }
def ProductDiffersUptoSaid : Prop := productDiffersUptoRow.holds Try.pinned (OpenSpec.upto productDiffersSpec)

end Rows
end Go.Proofs.Ytpoipkjchnopbaa
