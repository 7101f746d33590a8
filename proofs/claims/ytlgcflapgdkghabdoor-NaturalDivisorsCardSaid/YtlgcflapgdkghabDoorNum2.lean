/- Differences in the form of numbers. -/
import Derived.Test.YtlgcflapgdkghabDoorNum
import Derived.Test.YtlgcflapgdkghabDoorRef4
namespace Go.Proofs.YtlgcflapgdkghabDoor
open Go.RowKit

theorem Sub_less_num {ao bo : Option Addr} {n m ca cb N M : Nat} {w : World} (ha : Num w ao n ca N) (hb : Num w bo m cb M) (hlt : N < M) :
    Calls Tryd.prog 17 #[.slice ao n ca, .slice bo m cb] w fun e w' => e = .returned (.tuple #[.slice none 0 0, .bool false]) ∧ w = w' := by
  obtain ⟨xs, rfl, h1, rfl, h2⟩ := ha
  obtain ⟨ys, rfl, h3, rfl, h4⟩ := hb
  exact Sub_less ao bo ca cb xs ys w h1 h3 hlt
theorem Sub_numD {ao bo : Option Addr} {n m ca cb N M D : Nat} {w : World} (ha : Num w ao n ca N) (hb : Num w bo m cb M) (hle : M ≤ N) (hD : N - M = D) :
    Calls Tryd.prog 17 #[.slice ao n ca, .slice bo m cb] w fun e w' => ∃ ao' cap', e = .returned (.tuple #[.slice ao' (dig D).length cap', .bool true]) ∧ Fr w.heap.size w' ao' cap' (dig D) ∧ Below w.heap.size w w' := by
  subst hD; exact Sub_num ha hb hle
theorem Same_nil (w : World) : Calls Tryd.prog 7 #[.slice none 0 0, .slice none 0 0] w fun e w' => e = .returned (.bool true) ∧ Below w.heap.size w w' := Same_eq none none 0 0 [] w (Rd.nil w) (Rd.nil w)
end Go.Proofs.YtlgcflapgdkghabDoor
