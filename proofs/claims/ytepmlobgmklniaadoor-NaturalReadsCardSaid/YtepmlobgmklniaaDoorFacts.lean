/- Closed facts of this program that every row asks: each once. -/
import Derived.Test.YtepmlobgmklniaaDoorFrame
import Derived.Test.YtepmlobgmklniaaDoorFactA
import Derived.Test.YtepmlobgmklniaaDoorFactB
import Derived.Test.YtepmlobgmklniaaDoorFactC
import Derived.Test.YtepmlobgmklniaaDoorFactD
import Derived.Test.YtepmlobgmklniaaDoorFactE
namespace Go.Proofs.YtepmlobgmklniaaDoor.facts
open Go.ChangeShapes Go.WideShapes Go.ChangeAt Go.RowKit
theorem and_mk {a b : Bool} (h : a = true) (k : b = true) : (a && b) = true := by rw [h, k]; rfl
theorem laidOut : laidOutB Tryd.prog = true := by kernel_rfl
theorem rowed : mapsRowed Tryd.prog = true := by kernel_rfl
theorem stops : (Tryd.prog.stops == []) = true := by kernel_rfl
theorem stopKnobs : (Tryd.prog.stopKnobs == []) = true := by kernel_rfl
theorem plainKeys : (Rows.naturalReadsRow.plainKeys == Tryd.prog.plainKeys) = true := by kernel_rfl
theorem plainKeys_of {b : Bool} (h : b = Rows.naturalReadsRow.plainKeys) : (b == Tryd.prog.plainKeys) = true := by subst h; exact plainKeys
theorem make_of {m : Make} (h : m = Rows.naturalReadsRow.make) : (Tryd.prog.make == some m) = true := by subst h; exact make
theorem lifted_of {b : Bool} (h : b = Rows.naturalReadsRow.lifted) : (b == Tryd.prog.liftsFinal) = true := by subst h; exact lifted
theorem looks : false = Tryd.prog.looks [] := by kernel_rfl
end Go.Proofs.YtepmlobgmklniaaDoor.facts
