import Derived.Test.YtmhjimcdiglpcaaGreatRat11
import Derived.Test.YtmhjimcdiglpcaaGreatRat12
import Derived.Test.YtmhjimcdiglpcaaGreatPairs
import Derived.Deep.CutRange
/- Contracts: the law's quarter; a number's size named anew. -/
namespace Go.Proofs.YtmhjimcdiglpcaaGreat
open Go.RowKit

theorem CQ.resize {B : Nat} {w : World} {s : Bool} {ao : Option Addr} {n ca : Nat} {bo : Option Addr} {m cb : Nat} {q : Rat} {k l : Nat} (h : CQ B w s ao n ca bo m cb q k) (h1 : Sm (rn q) l) (h2 : Sm q.den l) : CQ B w s ao n ca bo m cb q l := by
  obtain ⟨a1, a2, a3, a4, a5, _, _⟩ := h
  exact ⟨a1, a2, a3, a4, a5, h1, h2⟩
theorem unit_sm {i : Nat} (hi : i ≤ 60) : Sm (rn (rq false 1 (10 ^ i))) 200 ∧ Sm (rq false 1 (10 ^ i)).den 200 := by
  have h := @rq_le false 1 (10 ^ i) (Nat.pow_pos (by omega))
  refine ⟨Sm.of_le (show Sm 1 200 from ⟨?_, by omega⟩) h.1, Sm.of_le (ten_sm hi) h.2⟩
  have h3 := pw_mono (show 1 ≤ 200 by omega)
  have : pw 1 = 4294967296 := by simp [pw]
  omega
set_option maxHeartbeats 2000000 in
set_option maxRecDepth 100000 in
theorem quarter_q (w : World) : Calls Tryz.prog 8 #[.int .i64 1, .int .i64 4] w (MakesQ (rq false 1 4) 2 w) := by
  obtain ⟨W1, hW1, B0, X0, hs1⟩ := boxR w
  have FR : Hid (∀ w', Calls Tryz.prog 30 #[.int .i64 1, .int .i64 4] w' (MakesE (rq false 1 4) 2 w')) := fun w' => by
    have h := rFraction_q 1 4 (by omega) (by omega) (by omega) (by omega) (by omega) w'
    exact h
  have HS := Lib.hid hs1
  clear hs1
  go_enter Tryz.func8, Tryz.ntmps8
  go_wp2_with fail
  rw [← hW1]
  clear hW1
  refine (FR.out _).mono ?_; rintro e W2 ⟨s2, a2, n2, c2, o2, m2, d2, rfl, cq2, b2⟩
  have n2x := below_new W2 (.cells #[.bool s2, .slice a2 n2 c2, .slice o2 m2 d2] 35)
  have X3 := (X0.below b2).below n2x
  have cq3 := cq2.below n2x
  have z3 := heap_alloc_new W2 (.cells #[.bool s2, .slice a2 n2 c2, .slice o2 m2 d2] 35)
  have BB := (B0.trans (b2.mono B0.size)).trans (n2x.mono (B0.trans (b2.mono B0.size)).size)
  have hne : w.heap.size < W1.heap.size := X0.lt
  obtain ⟨W3, hW3⟩ : ∃ W3, W3 = W2.alloc (.cells #[.bool s2, .slice a2 n2 c2, .slice o2 m2 d2] 35) := ⟨_, rfl⟩
  rw [← hW3] at X3 cq3 z3 BB
  obtain ⟨u0, u1, u2, q0, q1, q2, z0, z1, z2⟩ := X3.facts
  obtain ⟨c0, c1, c2', _⟩ := at_block z3
  clear n2x cq2 b2 z3
  go_upto_region 2 with fail
  rw [← hW3]
  clear hW3
  go_wp2_with fail
  refine bodyPost_ret (v := .agg #[.bool s2, .slice a2 n2 c2, .slice o2 m2 d2]) (by simp [results, Tryz.results8, go_sem, q0, q1, q2]) rfl ?_
  exact MakesQ.lift cq3 rfl hne (Nat.le_refl _) BB _ _ _
end Go.Proofs.YtmhjimcdiglpcaaGreat
