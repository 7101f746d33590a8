import Derived.Test.YtdcnkebcpaelpaaGreatDoorRat11
import Derived.Test.YtdcnkebcpaelpaaGreatDoorRat12
import Derived.Test.YtdcnkebcpaelpaaGreatDoorPairs
import Derived.Deep.CutRange
/- Contracts: the law's quarter; a number's size named anew. -/
namespace Go.Proofs.YtdcnkebcpaelpaaGreatDoor
open Go.RowKit

theorem CQ.resize {B : Nat} {w : World} {s : Bool} {ao : Option Addr} {n ca : Nat} {bo : Option Addr} {m cb : Nat} {q : Rat} {k l : Nat} (h : CQ B w s ao n ca bo m cb q k) (h1 : Sm (rn q) l) (h2 : Sm q.den l) : CQ B w s ao n ca bo m cb q l := by
  obtain ⟨a1, a2, a3, a4, a5, _, _⟩ := h
  exact ⟨a1, a2, a3, a4, a5, h1, h2⟩
theorem unit_sm {i : Nat} (hi : i ≤ 60) : Sm (rn (rq false 1 (10 ^ i))) 200 ∧ Sm (rq false 1 (10 ^ i)).den 200 := by
  have h := @rq_le false 1 (10 ^ i) (Nat.pow_pos (by omega))
  refine ⟨Sm.of_le (show Sm 1 200 from ⟨?_, by omega⟩) h.1, Sm.of_le (ten_sm hi) h.2⟩
  have h3 := pw_mono (show 1 ≤ 200 by omega)
  have : pw 1 = 4294967296 := by simp [pw]
  omega
end Go.Proofs.YtdcnkebcpaelpaaGreatDoor
