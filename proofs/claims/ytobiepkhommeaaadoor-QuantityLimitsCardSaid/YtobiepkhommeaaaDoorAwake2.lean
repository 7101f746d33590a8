import Derived.Test.YtobiepkhommeaaaDoorRat8
/- The sanity check of layer 2's laws holds. -/
namespace Go.Proofs.YtobiepkhommeaaaDoor
open Go.RowKit

theorem dec_833 : Lib.decDigits 833 = [56, 51, 51] := by
  repeat (rw [dec_big (by omega)])
  rw [dec_small (by omega)]
  rfl
theorem awake_units : ru (rn (rq false 1 2 + rq false 1 3)) (rq false 1 2 + rq false 1 3).den (10 ^ 3) = 833 := by decide +kernel
theorem awake_sign : rs (rq false 1 2 + rq false 1 3) = false := by decide +kernel
end Go.Proofs.YtobiepkhommeaaaDoor
