import Derived.Test.YtobiepkhommeaaaDoorRat9
import Derived.Test.YtobiepkhommeaaaDoorPow3
/- Contracts: a number rounded to decimals. -/
namespace Go.Proofs.YtobiepkhommeaaaDoor
open Go.RowKit

end Go.Proofs.YtobiepkhommeaaaDoor
/- Contracts: the reference's rounding. -/
namespace Go.Proofs.YtobiepkhommeaaaDoor
open Go.RowKit

theorem lit_two (w : World) : Num (w.alloc (.cells #[.int .u32 2] 77)) (some ⟨w.heap.size, 0, none⟩) 1 1 2 :=
  ⟨[2], rfl, rd_new w _ [2] rfl (lims_cons (by omega) lims_nil) 1 rfl (by omega), rfl, by decide⟩
theorem lit_ten (w : World) : Num (w.alloc (.cells #[.int .u32 10] 77)) (some ⟨w.heap.size, 0, none⟩) 1 1 10 :=
  ⟨[10], rfl, rd_new w _ [10] rfl (lims_cons (by omega) lims_nil) 1 rfl (by omega), rfl, by decide⟩
end Go.Proofs.YtobiepkhommeaaaDoor
