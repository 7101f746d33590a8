import Derived.Test.YtobiepkhommeaaaGreatDoorTwoE
import Derived.Test.YtobiepkhommeaaaGreatDoorQtysC
import Derived.Test.YtobiepkhommeaaaGreatDoorRat4
import Derived.Deep.CutRange
/- Quantities: Scale and UnitPrice of the code and of the reference; a number of a tape. -/
namespace Go.Proofs.YtobiepkhommeaaaGreatDoor
open Go.RowKit

def uniQ (d c a : Int) : Rat := if qwhy d c a = 0 then rq false (stdU d).size.toNat (qtot d c a).toNat else 0
theorem uniQ_ok {d c a : Int} (h : qwhy d c a = 0) : uniQ d c a = rq false (stdU d).size.toNat (qtot d c a).toNat := if_pos h
theorem uniQ_bad {d c a : Int} (h : qwhy d c a ≠ 0) : uniQ d c a = 0 := if_neg h
theorem field_u (N : ByteArray) (dm z : Int) (fl : Bool) (w : World) : Sem.run Tryz.prog (Instr.field 86 (Value.agg #[.string N, .int .i64 dm, .int .i64 z, .bool fl]) 2) w = Result.ok (.int .i64 z) w := by kernel_rfl

set_option maxHeartbeats 16000000 in
set_option maxRecDepth 100000 in
theorem Scale_v (s : Bool) (ao bo : Option Addr) (n ca m cb k : Nat) (p : Rat) (d1 c1 a1 d2 c2 a2 : Int) (hb1 : QB d1 c1 a1) (hb2 : QB d2 c2 a2) (w : World) (hp : RQ w s ao n ca bo m cb p k) (hk : 2 ≤ k) (hk2 : k ≤ 100000) :
    Calls Tryz.prog 36 #[.agg #[.bool s, .slice ao n ca, .slice bo m cb], .agg #[.int .i64 d1, .int .i64 c1, .int .i64 a1], .agg #[.int .i64 d2, .int .i64 c2, .int .i64 a2]] w (QRes (facE d1 c1 a1 d2 c2 a2) (p * facQ d1 c1 a1 d2 c2 a2) (k + k + 1) w) := by
  have FA : Hid (∀ w', Calls Tryz.prog 32 #[.agg #[.int .i64 d1, .int .i64 c1, .int .i64 a1], .agg #[.int .i64 d2, .int .i64 c2, .int .i64 a2]] w' (QRes (facE d1 c1 a1 d2 c2 a2) (facQ d1 c1 a1 d2 c2 a2) 2 w')) := fun w' => Factor_v d1 c1 a1 d2 c2 a2 hb1 hb2 w'
  have hz : facE d1 c1 a1 d2 c2 a2 ≠ 0 → facQ d1 c1 a1 d2 c2 a2 = 0 := facQ_bad
  obtain ⟨E, hE⟩ : ∃ E, E = facE d1 c1 a1 d2 c2 a2 := ⟨_, rfl⟩
  obtain ⟨Q, hQ⟩ : ∃ Q, Q = facQ d1 c1 a1 d2 c2 a2 := ⟨_, rfl⟩
  unfold Hid at FA
  rw [← hE, ← hQ] at FA hz ⊢
  have FA := Lib.hid FA
  clear hE hQ hb1 hb2
  obtain ⟨Z0, hZ0⟩ : ∃ W, W = w.alloc (.cells #[.bool s, .slice ao n ca, .slice bo m cb] 25) := ⟨_, rfl⟩
  obtain ⟨Z1, hZ1⟩ : ∃ W, W = Z0.alloc (.cells #[.int .i64 d1, .int .i64 c1, .int .i64 a1] 39) := ⟨_, rfl⟩
  obtain ⟨Z2, hZ2⟩ : ∃ W, W = Z1.alloc (.cells #[.int .i64 d2, .int .i64 c2, .int .i64 a2] 39) := ⟨_, rfl⟩
  obtain ⟨Z3, hZ3⟩ : ∃ W, W = Z2.alloc (.cells #[.bool false, .slice none 0 0, .slice none 0 0] 25) := ⟨_, rfl⟩
  have sz0 : Z0.heap.size = w.heap.size + 1 := by rw [hZ0, World.size_alloc]
  have bz0 : Below w.heap.size w Z0 := by rw [hZ0]; exact below_new _ _
  have xz0 : Z0.heap[w.heap.size]? = some (.cells #[.bool s, .slice ao n ca, .slice bo m cb] 25 (0, 0)) := by rw [hZ0]; exact heap_alloc_new _ _
  have sz1 : Z1.heap.size = w.heap.size + 1 + 1 := by rw [hZ1, World.size_alloc, sz0]
  have bz1 : Below Z0.heap.size Z0 Z1 := by rw [hZ1]; exact below_new _ _
  have xz1 : Z1.heap[w.heap.size + 1]? = some (.cells #[.int .i64 d1, .int .i64 c1, .int .i64 a1] 39 (0, 0)) := by rw [hZ1, ← sz0]; exact heap_alloc_new _ _
  have sz2 : Z2.heap.size = w.heap.size + 1 + 1 + 1 := by rw [hZ2, World.size_alloc, sz1]
  have bz2 : Below Z1.heap.size Z1 Z2 := by rw [hZ2]; exact below_new _ _
  have xz2 : Z2.heap[w.heap.size + 1 + 1]? = some (.cells #[.int .i64 d2, .int .i64 c2, .int .i64 a2] 39 (0, 0)) := by rw [hZ2, ← sz1]; exact heap_alloc_new _ _
  have sz3 : Z3.heap.size = w.heap.size + 1 + 1 + 1 + 1 := by rw [hZ3, World.size_alloc, sz2]
  have bz3 : Below Z2.heap.size Z2 Z3 := by rw [hZ3]; exact below_new _ _
  have xz3 : Z3.heap[w.heap.size + 1 + 1 + 1]? = some (.cells #[.bool false, .slice none 0 0, .slice none 0 0] 25 (0, 0)) := by rw [hZ3, ← sz2]; exact heap_alloc_new _ _
  have XP := Lib.hid (carry (carry (carry xz0 bz1) bz2) bz3)
  have XA := Lib.hid (carry (carry xz1 bz2) bz3)
  have XB := Lib.hid (carry xz2 bz3)
  have XC := Lib.hid xz3
  have HB1 := Lib.hid (((bz0.trans (bz1.mono bz0.size)).trans (bz2.mono (bz0.trans (bz1.mono bz0.size)).size)).trans (bz3.mono ((bz0.trans (bz1.mono bz0.size)).trans (bz2.mono (bz0.trans (bz1.mono bz0.size)).size)).size))
  have HSZ := Lib.hid sz3
  clear bz0 xz0 bz1 xz1 bz2 xz2 bz3 xz3 sz0 sz1 sz2 sz3
  have KP : Hid (∀ w', Below w.heap.size w w' → RQ w' s ao n ca bo m cb p k) := fun w' hb => hp.below hb
  clear hp
  obtain ⟨j0, j1, j2, _⟩ := at_blockQ XA.out
  obtain ⟨l0, l1, l2, _⟩ := at_blockQ XB.out
  go_enter Tryz.func36, Tryz.ntmps36
  go_wp2_with fail
  rw [← hZ0, ← hZ1, ← hZ2, ← hZ3]
  clear hZ0 hZ1 hZ2 hZ3
  refine (FA.out _).mono ?_; rintro e W2 ⟨s2, a2', n2, c2', o2, m2, d2', rfl, cq2, b2⟩
  have n3 := below_new W2 (.cells #[.bool s2, .slice a2' n2 c2', .slice o2 m2 d2'] 25)
  have y3 := heap_alloc_new W2 (.cells #[.bool s2, .slice a2' n2 c2', .slice o2 m2 d2'] 25)
  have B3 := (HB1.out.trans (b2.mono HB1.out.size)).trans (n3.mono (Nat.le_trans HB1.out.size b2.size))
  have xc3 := carry (carry XC.out b2) n3
  have xp3 := carry (carry XP.out b2) n3
  have cq3 := (cq2.below n3).rq
  obtain ⟨W3, hW3⟩ : ∃ W, W = W2.alloc (.cells #[.bool s2, .slice a2' n2 c2', .slice o2 m2 d2'] 25) := ⟨_, rfl⟩
  obtain ⟨g3, hg3⟩ : ∃ g, g = W2.heap.size := ⟨_, rfl⟩
  rw [← hW3] at y3 B3 xc3 xp3 cq3
  rw [← hg3] at y3
  have HB3 := Lib.hid B3
  have C3 := Lib.hid cq3
  have XC3 := Lib.hid xc3
  clear cq2 n3 b2 B3 cq3 j0 j1 j2 l0 l1 l2
  obtain ⟨q0, q1, q2, z0, z1, z2⟩ := at_blockQ xc3
  obtain ⟨i0, i1, i2, _⟩ := at_blockQ xp3
  obtain ⟨f0, f1, f2, _⟩ := at_blockQ y3
  clear xc3 xp3 y3
  go_upto_region 2 with fail
  rw [← hW3, ← hg3]
  clear hW3 hg3
  by_cases hE0 : E = 0
  · have hEb : (E != 0) = false := by rw [hE0]; rfl
    have MU := Lib.hid (Mul_q s s2 ao bo a2' o2 n ca m cb n2 c2' m2 d2' k p Q W3 (KP.out W3 HB3.out) (RQ.up C3.out hk (by omega)) (by omega))
    subst hE0
    clear hz
    go_wp2_with fail
    refine MU.out.mono ?_; rintro e W4 ⟨s4, a4, n4, c4, o4, m4, d4, rfl, cq4, b4⟩
    have xc4 := carry XC3.out b4
    have B4 := HB3.out.trans (b4.mono HB3.out.size)
    have hlt : w.heap.size + 1 + 1 + 1 < W3.heap.size := (Array.getElem?_eq_some_iff.1 XC3.out).1
    clear q0 q1 q2 z0 z1 z2 i0 i1 i2 f0 f1 f2
    obtain ⟨q0, q1, q2, z0, z1, z2⟩ := at_blockQ xc4
    have HCQ := Lib.hid cq4
    have HB4 := Lib.hid B4
    clear xc4 cq4 b4 B4
    go_wp2_with fail
    refine bodyPost_ret (v := .tuple #[.agg #[.bool s4, .slice a4 n4 c4, .slice o4 m4 d4], .int .i64 0]) (by simp [results, Tryz.results36, go_sem, q0, q1, q2]) rfl ?_
    exact QRes.lift HCQ.out rfl hlt (by omega) HB4.out _ _ _
  · have hEb : (E != 0) = true := by simp [hE0]
    have HQZ := Lib.hid (hz hE0)
    clear hz hE0
    go_wp2_with fail
    refine bodyPost_ret (v := .tuple #[.agg #[.bool false, .slice none 0 0, .slice none 0 0], .int .i64 E]) (by simp [results, Tryz.results36, go_sem, q0, q1, q2]) rfl ?_
    exact QRes.bad (by rw [HQZ.out, Rat.mul_zero]) (by omega) (by omega) (by first | exact below3 HB3.out (by omega) _ _ _ | exact HB3.out)

set_option maxHeartbeats 16000000 in
set_option maxRecDepth 100000 in
theorem rScale_v (s : Bool) (ao bo : Option Addr) (n ca m cb k : Nat) (p : Rat) (d1 c1 a1 d2 c2 a2 : Int) (hb1 : QB d1 c1 a1) (hb2 : QB d2 c2 a2) (w : World) (hp : RQ w s ao n ca bo m cb p k) (hk : 2 ≤ k) (hk2 : k ≤ 100000) :
    Calls Tryz.prog 37 #[.agg #[.bool s, .slice ao n ca, .slice bo m cb], .agg #[.int .i64 d1, .int .i64 c1, .int .i64 a1], .agg #[.int .i64 d2, .int .i64 c2, .int .i64 a2]] w (QRes (facE d1 c1 a1 d2 c2 a2) (p * facQ d1 c1 a1 d2 c2 a2) (k + k + 1) w) := by
  have FA : Hid (∀ w', Calls Tryz.prog 33 #[.agg #[.int .i64 d1, .int .i64 c1, .int .i64 a1], .agg #[.int .i64 d2, .int .i64 c2, .int .i64 a2]] w' (QRes (facE d1 c1 a1 d2 c2 a2) (facQ d1 c1 a1 d2 c2 a2) 2 w')) := fun w' => rFactor_v d1 c1 a1 d2 c2 a2 hb1 hb2 w'
  have hz : facE d1 c1 a1 d2 c2 a2 ≠ 0 → facQ d1 c1 a1 d2 c2 a2 = 0 := facQ_bad
  obtain ⟨E, hE⟩ : ∃ E, E = facE d1 c1 a1 d2 c2 a2 := ⟨_, rfl⟩
  obtain ⟨Q, hQ⟩ : ∃ Q, Q = facQ d1 c1 a1 d2 c2 a2 := ⟨_, rfl⟩
  unfold Hid at FA
  rw [← hE, ← hQ] at FA hz ⊢
  have FA := Lib.hid FA
  clear hE hQ hb1 hb2
  obtain ⟨Z0, hZ0⟩ : ∃ W, W = w.alloc (.cells #[.bool s, .slice ao n ca, .slice bo m cb] 25) := ⟨_, rfl⟩
  obtain ⟨Z1, hZ1⟩ : ∃ W, W = Z0.alloc (.cells #[.int .i64 d1, .int .i64 c1, .int .i64 a1] 39) := ⟨_, rfl⟩
  obtain ⟨Z2, hZ2⟩ : ∃ W, W = Z1.alloc (.cells #[.int .i64 d2, .int .i64 c2, .int .i64 a2] 39) := ⟨_, rfl⟩
  obtain ⟨Z3, hZ3⟩ : ∃ W, W = Z2.alloc (.cells #[.bool false, .slice none 0 0, .slice none 0 0] 25) := ⟨_, rfl⟩
  have sz0 : Z0.heap.size = w.heap.size + 1 := by rw [hZ0, World.size_alloc]
  have bz0 : Below w.heap.size w Z0 := by rw [hZ0]; exact below_new _ _
  have xz0 : Z0.heap[w.heap.size]? = some (.cells #[.bool s, .slice ao n ca, .slice bo m cb] 25 (0, 0)) := by rw [hZ0]; exact heap_alloc_new _ _
  have sz1 : Z1.heap.size = w.heap.size + 1 + 1 := by rw [hZ1, World.size_alloc, sz0]
  have bz1 : Below Z0.heap.size Z0 Z1 := by rw [hZ1]; exact below_new _ _
  have xz1 : Z1.heap[w.heap.size + 1]? = some (.cells #[.int .i64 d1, .int .i64 c1, .int .i64 a1] 39 (0, 0)) := by rw [hZ1, ← sz0]; exact heap_alloc_new _ _
  have sz2 : Z2.heap.size = w.heap.size + 1 + 1 + 1 := by rw [hZ2, World.size_alloc, sz1]
  have bz2 : Below Z1.heap.size Z1 Z2 := by rw [hZ2]; exact below_new _ _
  have xz2 : Z2.heap[w.heap.size + 1 + 1]? = some (.cells #[.int .i64 d2, .int .i64 c2, .int .i64 a2] 39 (0, 0)) := by rw [hZ2, ← sz1]; exact heap_alloc_new _ _
  have sz3 : Z3.heap.size = w.heap.size + 1 + 1 + 1 + 1 := by rw [hZ3, World.size_alloc, sz2]
  have bz3 : Below Z2.heap.size Z2 Z3 := by rw [hZ3]; exact below_new _ _
  have xz3 : Z3.heap[w.heap.size + 1 + 1 + 1]? = some (.cells #[.bool false, .slice none 0 0, .slice none 0 0] 25 (0, 0)) := by rw [hZ3, ← sz2]; exact heap_alloc_new _ _
  have XP := Lib.hid (carry (carry (carry xz0 bz1) bz2) bz3)
  have XA := Lib.hid (carry (carry xz1 bz2) bz3)
  have XB := Lib.hid (carry xz2 bz3)
  have XC := Lib.hid xz3
  have HB1 := Lib.hid (((bz0.trans (bz1.mono bz0.size)).trans (bz2.mono (bz0.trans (bz1.mono bz0.size)).size)).trans (bz3.mono ((bz0.trans (bz1.mono bz0.size)).trans (bz2.mono (bz0.trans (bz1.mono bz0.size)).size)).size))
  have HSZ := Lib.hid sz3
  clear bz0 xz0 bz1 xz1 bz2 xz2 bz3 xz3 sz0 sz1 sz2 sz3
  have KP : Hid (∀ w', Below w.heap.size w w' → RQ w' s ao n ca bo m cb p k) := fun w' hb => hp.below hb
  clear hp
  obtain ⟨j0, j1, j2, _⟩ := at_blockQ XA.out
  obtain ⟨l0, l1, l2, _⟩ := at_blockQ XB.out
  go_enter Tryz.func37, Tryz.ntmps37
  go_wp2_with fail
  rw [← hZ0, ← hZ1, ← hZ2, ← hZ3]
  clear hZ0 hZ1 hZ2 hZ3
  refine (FA.out _).mono ?_; rintro e W2 ⟨s2, a2', n2, c2', o2, m2, d2', rfl, cq2, b2⟩
  have n3 := below_new W2 (.cells #[.bool s2, .slice a2' n2 c2', .slice o2 m2 d2'] 25)
  have y3 := heap_alloc_new W2 (.cells #[.bool s2, .slice a2' n2 c2', .slice o2 m2 d2'] 25)
  have B3 := (HB1.out.trans (b2.mono HB1.out.size)).trans (n3.mono (Nat.le_trans HB1.out.size b2.size))
  have xc3 := carry (carry XC.out b2) n3
  have xp3 := carry (carry XP.out b2) n3
  have cq3 := (cq2.below n3).rq
  obtain ⟨W3, hW3⟩ : ∃ W, W = W2.alloc (.cells #[.bool s2, .slice a2' n2 c2', .slice o2 m2 d2'] 25) := ⟨_, rfl⟩
  obtain ⟨g3, hg3⟩ : ∃ g, g = W2.heap.size := ⟨_, rfl⟩
  rw [← hW3] at y3 B3 xc3 xp3 cq3
  rw [← hg3] at y3
  have HB3 := Lib.hid B3
  have C3 := Lib.hid cq3
  have XC3 := Lib.hid xc3
  clear cq2 n3 b2 B3 cq3 j0 j1 j2 l0 l1 l2
  obtain ⟨q0, q1, q2, z0, z1, z2⟩ := at_blockQ xc3
  obtain ⟨i0, i1, i2, _⟩ := at_blockQ xp3
  obtain ⟨f0, f1, f2, _⟩ := at_blockQ y3
  clear xc3 xp3 y3
  go_upto_region 2 with fail
  rw [← hW3, ← hg3]
  clear hW3 hg3
  by_cases hE0 : E = 0
  · have hEb : (E != 0) = false := by rw [hE0]; rfl
    have MU := Lib.hid (rMul_q s s2 ao bo a2' o2 n ca m cb n2 c2' m2 d2' k p Q W3 (KP.out W3 HB3.out) (RQ.up C3.out hk (by omega)) (by omega))
    subst hE0
    clear hz
    go_wp2_with fail
    refine MU.out.mono ?_; rintro e W4 ⟨s4, a4, n4, c4, o4, m4, d4, rfl, cq4, b4⟩
    have xc4 := carry XC3.out b4
    have B4 := HB3.out.trans (b4.mono HB3.out.size)
    have hlt : w.heap.size + 1 + 1 + 1 < W3.heap.size := (Array.getElem?_eq_some_iff.1 XC3.out).1
    clear q0 q1 q2 z0 z1 z2 i0 i1 i2 f0 f1 f2
    obtain ⟨q0, q1, q2, z0, z1, z2⟩ := at_blockQ xc4
    have HCQ := Lib.hid cq4
    have HB4 := Lib.hid B4
    clear xc4 cq4 b4 B4
    go_wp2_with fail
    refine bodyPost_ret (v := .tuple #[.agg #[.bool s4, .slice a4 n4 c4, .slice o4 m4 d4], .int .i64 0]) (by simp [results, Tryz.results37, go_sem, q0, q1, q2]) rfl ?_
    exact QRes.lift HCQ.out rfl hlt (by omega) HB4.out _ _ _
  · have hEb : (E != 0) = true := by simp [hE0]
    have HQZ := Lib.hid (hz hE0)
    clear hz hE0
    go_wp2_with fail
    refine bodyPost_ret (v := .tuple #[.agg #[.bool false, .slice none 0 0, .slice none 0 0], .int .i64 E]) (by simp [results, Tryz.results37, go_sem, q0, q1, q2]) rfl ?_
    exact QRes.bad (by rw [HQZ.out, Rat.mul_zero]) (by omega) (by omega) (by first | exact below3 HB3.out (by omega) _ _ _ | exact HB3.out)

set_option maxHeartbeats 16000000 in
set_option maxRecDepth 100000 in
theorem UnitPrice_v (s : Bool) (ao bo : Option Addr) (n ca m cb k : Nat) (p : Rat) (d c a : Int) (hb1 : QB d c a) (w : World) (hp : RQ w s ao n ca bo m cb p k) (hk : 2 ≤ k) (hk2 : k ≤ 100000) :
    Calls Tryz.prog 34 #[.agg #[.bool s, .slice ao n ca, .slice bo m cb], .agg #[.int .i64 d, .int .i64 c, .int .i64 a]] w (QRes (qwhy d c a) (p * uniQ d c a) (k + k + 1) w) := by
  obtain ⟨y, hy⟩ : ∃ y, y = qwhy d c a := ⟨_, rfl⟩
  have V1 : Hid (∀ w', Calls Tryz.prog 63 #[.agg #[.int .i64 d, .int .i64 c, .int .i64 a]] w' fun e w2 => e = .returned (.int .i64 y) ∧ Below w'.heap.size w' w2) := fun w' => by rw [hy]; exact Validate_q d c a hb1 w'
  obtain ⟨Q, hQ⟩ : ∃ Q, Q = uniQ d c a := ⟨_, rfl⟩
  rw [← hy, ← hQ]
  obtain ⟨Z0, hZ0⟩ : ∃ W, W = w.alloc (.cells #[.bool s, .slice ao n ca, .slice bo m cb] 25) := ⟨_, rfl⟩
  obtain ⟨Z1, hZ1⟩ : ∃ W, W = Z0.alloc (.cells #[.int .i64 d, .int .i64 c, .int .i64 a] 39) := ⟨_, rfl⟩
  obtain ⟨Z2, hZ2⟩ : ∃ W, W = Z1.alloc (.cells #[.bool false, .slice none 0 0, .slice none 0 0] 25) := ⟨_, rfl⟩
  have sz0 : Z0.heap.size = w.heap.size + 1 := by rw [hZ0, World.size_alloc]
  have bz0 : Below w.heap.size w Z0 := by rw [hZ0]; exact below_new _ _
  have xz0 : Z0.heap[w.heap.size]? = some (.cells #[.bool s, .slice ao n ca, .slice bo m cb] 25 (0, 0)) := by rw [hZ0]; exact heap_alloc_new _ _
  have sz1 : Z1.heap.size = w.heap.size + 1 + 1 := by rw [hZ1, World.size_alloc, sz0]
  have bz1 : Below Z0.heap.size Z0 Z1 := by rw [hZ1]; exact below_new _ _
  have xz1 : Z1.heap[w.heap.size + 1]? = some (.cells #[.int .i64 d, .int .i64 c, .int .i64 a] 39 (0, 0)) := by rw [hZ1, ← sz0]; exact heap_alloc_new _ _
  have sz2 : Z2.heap.size = w.heap.size + 1 + 1 + 1 := by rw [hZ2, World.size_alloc, sz1]
  have bz2 : Below Z1.heap.size Z1 Z2 := by rw [hZ2]; exact below_new _ _
  have xz2 : Z2.heap[w.heap.size + 1 + 1]? = some (.cells #[.bool false, .slice none 0 0, .slice none 0 0] 25 (0, 0)) := by rw [hZ2, ← sz1]; exact heap_alloc_new _ _
  have XP := Lib.hid (carry (carry xz0 bz1) bz2)
  have XA := Lib.hid (carry xz1 bz2)
  have XC := Lib.hid xz2
  have HB1 := Lib.hid ((bz0.trans (bz1.mono bz0.size)).trans (bz2.mono (bz0.trans (bz1.mono bz0.size)).size))
  have HSZ := Lib.hid sz2
  clear bz0 xz0 bz1 xz1 bz2 xz2 sz0 sz1 sz2
  have KP : Hid (∀ w', Below w.heap.size w w' → RQ w' s ao n ca bo m cb p k) := fun w' hb => hp.below hb
  clear hp
  obtain ⟨j0, j1, j2, _⟩ := at_blockQ XA.out
  by_cases h1 : y = 0
  · have h1b : (y != 0) = false := by rw [h1]; rfl
    obtain ⟨v1, v2, _, _, _, _⟩ := qwhy_zero.1 (show qwhy d c a = 0 by rw [← hy]; exact h1)
    have t1 := qtot_pos (show qwhy d c a = 0 by rw [← hy]; exact h1)
    obtain ⟨T, hT⟩ : ∃ T : Nat, T = (qtot d c a).toNat := ⟨_, rfl⟩
    have hTq : qtot d c a = (T : Int) := by omega
    have TA : Hid (∀ w', Calls Tryz.prog 73 #[.agg #[.int .i64 d, .int .i64 c, .int .i64 a]] w' fun e w2 => e = .returned (.int .i64 (T : Int)) ∧ Below w'.heap.size w' w2) := fun w' => by
      have h := Total_q d c a hb1 w'
      rwa [hTq] at h
    obtain ⟨z, hz⟩ : ∃ z : Nat, z = (stdU d).size.toNat := ⟨_, rfl⟩
    have hzz : (stdU d).size = (z : Int) ∧ z ≤ 1000000 := by
      rcases first_mem (fun u => u.dim == d) with e | ⟨hm, _⟩
      · have : stdU d = Un.nil := e
        rw [hz, this]; decide
      · have := un_size (show stdU d ∈ cU from hm)
        omega
    have HQQ : Hid (rq false z T = Q) := by unfold Hid; rw [hQ, uniQ_ok (by rw [← hy]; exact h1), hz, hT]
    have FR : Hid (∀ w', Calls Tryz.prog 60 #[.int .i64 (z : Int), .int .i64 (T : Int)] w' (QRes 0 (rq false z T) 2 w')) := fun w' => FracT z T (by omega) (by omega) (by omega) _ _ rfl rfl w'
    obtain ⟨u, hu⟩ : ∃ u, u = stdU d := ⟨_, rfl⟩
    obtain ⟨N, hN⟩ : ∃ N, N = txtB u.name := ⟨_, rfl⟩
    obtain ⟨dm, hdm⟩ : ∃ x, x = u.dim := ⟨_, rfl⟩
    obtain ⟨fl, hfl⟩ : ∃ x, x = u.flag := ⟨_, rfl⟩
    have SU : Hid (∀ w', Calls Tryz.prog 85 #[.int .i64 d] w' fun e w2 => e = .returned (.agg #[.string N, .int .i64 dm, .int .i64 (z : Int), .bool fl]) ∧ Below w'.heap.size w' w2) := fun w' => by
      have h := standardUnit_v d w'
      rw [← hu, show uv u = .agg #[.string N, .int .i64 dm, .int .i64 (z : Int), .bool fl] by rw [hN, hdm, hfl, ← hzz.1, ← hu]; rfl] at h
      exact h
    subst h1
    clear hy hQ hb1 t1 hT hTq hz hzz v1 v2 hu hN hdm hfl
    go_enter Tryz.func34, Tryz.ntmps34
    go_wp2_with fail
    rw [← hZ0, ← hZ1, ← hZ2]
    clear hZ0 hZ1 hZ2
    refine (V1.out _).mono ?_; rintro e W2 ⟨rfl, b2⟩
    have HB2 := Lib.hid (HB1.out.trans (b2.mono HB1.out.size))
    have XC2 := Lib.hid (carry XC.out b2)
    have XP2 := Lib.hid (carry XP.out b2)
    have XA2 := Lib.hid (carry XA.out b2)
    have KC : Hid (∀ w', Below W2.heap.size W2 w' → w'.cell? ⟨w.heap.size + 1, 0, none⟩ = some (.int .i64 d) ∧ w'.cell? ⟨w.heap.size + 1, 1, none⟩ = some (.int .i64 c) ∧ w'.cell? ⟨w.heap.size + 1, 2, none⟩ = some (.int .i64 a)) := fun w' hb => by
      obtain ⟨i0, i1, i2, _⟩ := at_blockQ (carry XA2.out hb)
      exact ⟨i0, i1, i2⟩
    clear b2 j0 j1 j2
    go_upto_region 4 with fail
    go_cut [7] from 9 to 28 (fun v7 wx => NumCut W2 (rq false z T) 2 v7 wx)
    case first =>
      refine wp_region_any (by kernel_rfl) ?_
      refine region_ssa [16, 17, 18, 19, 20, 21, 22, 15, 23, 24, 7, 8] (Below W2.heap.size W2) (ExtT 25 W2.heap.size) (TwoR 25 W2.heap.size [.val (.pointer (some ⟨w.heap.size + 1, 0, none⟩)), .val (.int .i64 d), .val (.agg #[.string N, .int .i64 dm, .int .i64 (z : Int), .bool fl]), .val (.int .i64 (z : Int)), .val (.agg #[.int .i64 d, .int .i64 c, .int .i64 a]), .val (.int .i64 (T : Int)), .numE (rq false z T) 2, .numE (rq false z T) 2, .num (rq false z T) 2, .val (.int .i64 0), .box, .any, .val (.int .i64 0)]) (OneX 25 11 7 23) (fun f => rfl) (by kernel_rfl) (by kernel_rfl) ?_ ?_ ?_ ?_ (AllFrom.below (n := 13) ?_) ?_
      · exact (Below.refl _ _).drew
      · intro f h; cases h
      · intro i v w1 w2 _ h hE; exact TwoR.ext (by decide) i v w1 w2 h hE
      · intro w1 w2 hB hE; exact hB.trans hE.1
      · refine AllFrom.step (m := 12) (j := 1) rfl ?_ ?_
        · intro D f w1 hD hB hR hp hcl hX
          refine wpOp_step rfl (fun K hK => ?_)
          simp only [putAll, Act.put, List.setIfInBounds_toArray, List.set_cons_succ, List.set_cons_zero]
          go_simp
          exact hK _ _ ⟨(.pointer (some ⟨w.heap.size + 1, 0, none⟩)), (by show _ = Act.put _ (some 16) _; simp only [putAll, Act.put, List.setIfInBounds_toArray, List.set_cons_succ, List.set_cons_zero, *]), rfl, ExtT.refl _ _ _, fun h => absurd h (no_of (D := D) (hcl 11) (by kernel_rfl) hD)⟩
        refine AllFrom.step (m := 11) (j := 2) rfl ?_ ?_
        · intro D f w1 hD hB hR hp hcl hX
          have e0 : f 16 = (.pointer (some ⟨w.heap.size + 1, 0, none⟩)) := (hp_at hp 0 (by kernel_rfl)).2
          obtain ⟨i0, i1, i2⟩ := KC.out w1 hB
          refine wpOp_step rfl (fun K hK => ?_)
          simp only [putAll, Act.put, List.setIfInBounds_toArray, List.set_cons_succ, List.set_cons_zero]
          go_simp
          exact hK _ _ ⟨(.int .i64 d), (by show _ = Act.put _ (some 17) _; simp only [putAll, Act.put, List.setIfInBounds_toArray, List.set_cons_succ, List.set_cons_zero, *]), rfl, ExtT.refl _ _ _, fun h => absurd h (no_of (D := D) (hcl 11) (by kernel_rfl) hD)⟩
        refine AllFrom.step (m := 10) (j := 3) rfl ?_ ?_
        · intro D f w1 hD hB hR hp hcl hX
          have e1 : f 17 = (.int .i64 d) := (hp_at hp 1 (by kernel_rfl)).2
          refine wpOp_step rfl (fun K hK => ?_)
          simp only [putAll, Act.put, List.setIfInBounds_toArray, List.set_cons_succ, List.set_cons_zero]
          go_simp
          refine (SU.out _).mono ?_
          rintro e w2 ⟨rfl, hb⟩
          go_simp
          exact hK _ _ ⟨(.agg #[.string N, .int .i64 dm, .int .i64 (z : Int), .bool fl]), (by show _ = Act.put _ (some 18) _; simp only [putAll, Act.put, List.setIfInBounds_toArray, List.set_cons_succ, List.set_cons_zero, *]), rfl, ExtT.of_below hb hB.size, fun h => absurd h (no_of (D := D) (hcl 11) (by kernel_rfl) hD)⟩
        refine AllFrom.step (m := 9) (j := 4) rfl ?_ ?_
        · intro D f w1 hD hB hR hp hcl hX
          have e2 : f 18 = (.agg #[.string N, .int .i64 dm, .int .i64 (z : Int), .bool fl]) := (hp_at hp 2 (by kernel_rfl)).2
          refine wpOp_step rfl (fun K hK => ?_)
          simp only [putAll, Act.put, List.setIfInBounds_toArray, List.set_cons_succ, List.set_cons_zero]
          go_simp
          try simp only [field_u, Result.andThen_ok]
          try go_simp
          exact hK _ _ ⟨(.int .i64 (z : Int)), (by show _ = Act.put _ (some 19) _; simp only [putAll, Act.put, List.setIfInBounds_toArray, List.set_cons_succ, List.set_cons_zero, *]), rfl, ExtT.refl _ _ _, fun h => absurd h (no_of (D := D) (hcl 11) (by kernel_rfl) hD)⟩
        refine AllFrom.step (m := 8) (j := 5) rfl ?_ ?_
        · intro D f w1 hD hB hR hp hcl hX
          obtain ⟨i0, i1, i2⟩ := KC.out w1 hB
          refine wpOp_step rfl (fun K hK => ?_)
          simp only [putAll, Act.put, List.setIfInBounds_toArray, List.set_cons_succ, List.set_cons_zero]
          go_simp
          exact hK _ _ ⟨(.agg #[.int .i64 d, .int .i64 c, .int .i64 a]), (by show _ = Act.put _ (some 20) _; simp only [putAll, Act.put, List.setIfInBounds_toArray, List.set_cons_succ, List.set_cons_zero, *]), rfl, ExtT.refl _ _ _, fun h => absurd h (no_of (D := D) (hcl 11) (by kernel_rfl) hD)⟩
        refine AllFrom.step (m := 7) (j := 6) rfl ?_ ?_
        · intro D f w1 hD hB hR hp hcl hX
          have e4 : f 20 = (.agg #[.int .i64 d, .int .i64 c, .int .i64 a]) := (hp_at hp 4 (by kernel_rfl)).2
          refine wpOp_step rfl (fun K hK => ?_)
          simp only [putAll, Act.put, List.setIfInBounds_toArray, List.set_cons_succ, List.set_cons_zero]
          go_simp
          refine (TA.out _).mono ?_
          rintro e w2 ⟨rfl, hb⟩
          go_simp
          exact hK _ _ ⟨(.int .i64 (T : Int)), (by show _ = Act.put _ (some 21) _; simp only [putAll, Act.put, List.setIfInBounds_toArray, List.set_cons_succ, List.set_cons_zero, *]), rfl, ExtT.of_below hb hB.size, fun h => absurd h (no_of (D := D) (hcl 11) (by kernel_rfl) hD)⟩
        refine AllFrom.step (m := 6) (j := 7) rfl ?_ ?_
        · intro D f w1 hD hB hR hp hcl hX
          have e3 : f 19 = (.int .i64 (z : Int)) := (hp_at hp 3 (by kernel_rfl)).2
          have e5 : f 21 = (.int .i64 (T : Int)) := (hp_at hp 5 (by kernel_rfl)).2
          refine wpOp_step rfl (fun K hK => ?_)
          simp only [putAll, Act.put, List.setIfInBounds_toArray, List.set_cons_succ, List.set_cons_zero]
          go_simp
          refine (FR.out _).mono ?_
          rintro e w2 ⟨s, ao, m, ca, bo, l, cb, rfl, cq, hb⟩
          go_simp
          exact hK _ _ ⟨.tuple #[.agg #[.bool s, .slice ao m ca, .slice bo l cb], .int .i64 0], (by show _ = Act.put _ (some 22) _; simp only [putAll, Act.put, List.setIfInBounds_toArray, List.set_cons_succ, List.set_cons_zero, *]), ⟨s, ao, m, ca, bo, l, cb, rfl, cq.mono (Nat.zero_le _)⟩, ExtT.of_below hb hB.size, fun h => absurd h (no_of (D := D) (hcl 11) (by kernel_rfl) hD)⟩
        refine AllFrom.step (m := 5) (j := 8) rfl ?_ ?_
        · intro D f w1 hD hB hR hp hcl hX
          obtain ⟨s6, a6, n6, c6, o6, m6, d6, e6, q6⟩ := (hp_at hp 6 (by kernel_rfl)).2
          replace e6 : f 22 = _ := e6
          refine wpOp_step rfl (fun K hK => ?_)
          simp only [putAll, Act.put, List.setIfInBounds_toArray, List.set_cons_succ, List.set_cons_zero]
          go_simp
          exact hK _ _ ⟨.tuple #[.agg #[.bool s6, .slice a6 n6 c6, .slice o6 m6 d6], .int .i64 0], (by show _ = Act.put _ (some 15) _; simp only [putAll, Act.put, List.setIfInBounds_toArray, List.set_cons_succ, List.set_cons_zero, *]), ⟨_, _, _, _, _, _, _, rfl, q6⟩, ExtT.refl _ _ _, fun h => absurd h (no_of (D := D) (hcl 11) (by kernel_rfl) hD)⟩
        refine AllFrom.step (m := 4) (j := 9) rfl ?_ ?_
        · intro D f w1 hD hB hR hp hcl hX
          obtain ⟨s7, a7, n7, c7, o7, m7, d7, e7, q7⟩ := (hp_at hp 7 (by kernel_rfl)).2
          replace e7 : f 15 = _ := e7
          refine wpOp_step rfl (fun K hK => ?_)
          simp only [putAll, Act.put, List.setIfInBounds_toArray, List.set_cons_succ, List.set_cons_zero]
          go_simp
          exact hK _ _ ⟨.agg #[.bool s7, .slice a7 n7 c7, .slice o7 m7 d7], (by show _ = Act.put _ (some 23) _; simp only [putAll, Act.put, List.setIfInBounds_toArray, List.set_cons_succ, List.set_cons_zero, *]), ⟨_, _, _, _, _, _, _, rfl, q7⟩, ExtT.refl _ _ _, fun h => absurd h (no_of (D := D) (hcl 11) (by kernel_rfl) hD)⟩
        refine AllFrom.step (m := 3) (j := 10) rfl ?_ ?_
        · intro D f w1 hD hB hR hp hcl hX
          obtain ⟨s7, a7, n7, c7, o7, m7, d7, e7, q7⟩ := (hp_at hp 7 (by kernel_rfl)).2
          replace e7 : f 15 = _ := e7
          refine wpOp_step rfl (fun K hK => ?_)
          simp only [putAll, Act.put, List.setIfInBounds_toArray, List.set_cons_succ, List.set_cons_zero]
          go_simp
          exact hK _ _ ⟨(.int .i64 0), (by show _ = Act.put _ (some 24) _; simp only [putAll, Act.put, List.setIfInBounds_toArray, List.set_cons_succ, List.set_cons_zero, *]), rfl, ExtT.refl _ _ _, hX⟩
        refine AllFrom.step (m := 2) (j := 11) rfl ?_ ?_
        · intro D f w1 hD hB hR hp hcl hX
          refine wpOp_step rfl (fun K hK => ?_)
          simp only [putAll, Act.put, List.setIfInBounds_toArray, List.set_cons_succ, List.set_cons_zero]
          go_simp
          exact hK _ _ ⟨.pointer (some ⟨w1.heap.size, 0, none⟩), (by show _ = Act.put _ (some 7) _; simp only [putAll, Act.put, List.setIfInBounds_toArray, List.set_cons_succ, List.set_cons_zero, *]), ⟨w1.heap.size, rfl, hB.size, newBT _ _ _ _ _⟩, ExtT.of_below (below_new _ _) hB.size, fun h => absurd h (no_of (D := D) (hcl 11) (by kernel_rfl) hD)⟩
        refine AllFrom.step (m := 1) (j := 12) rfl ?_ ?_
        · intro D f w1 hD hB hR hp hcl hX
          obtain ⟨g, eg, hg, hb⟩ := (hp_at hp 10 (by kernel_rfl)).2
          obtain ⟨s5, a5, n5, c5, o5, m5, d5, ev, hcq⟩ := (hp_at hp 8 (by kernel_rfl)).2
          replace ev : f 23 = _ := ev
          replace eg : f 7 = _ := eg
          obtain ⟨u0, u1, u2, q0, q1, q2, z0, z1, z2⟩ := hb.facts
          refine wpOp_step rfl (fun K hK => ?_)
          simp only [putAll, Act.put, List.setIfInBounds_toArray, List.set_cons_succ, List.set_cons_zero]
          go_simp
          exact hK _ _ ⟨undef, (by show _ = Act.put _ (none) _; simp only [putAll, Act.put, List.setIfInBounds_toArray, List.set_cons_succ, List.set_cons_zero, *]), trivial, ExtT.set3 hb hg _ _ _, fun _ => by show HoldsT _ _ (f 7) (f 23); rw [eg, ev]; exact HoldsT.new hb _ _ _⟩
        refine AllFrom.step (m := 0) (j := 13) rfl ?_ ?_
        · intro D f w1 hD hB hR hp hcl hX
          have e9 : f 24 = (.int .i64 0) := (hp_at hp 9 (by kernel_rfl)).2
          refine wpOp_step rfl (fun K hK => ?_)
          simp only [putAll, Act.put, List.setIfInBounds_toArray, List.set_cons_succ, List.set_cons_zero]
          go_simp
          exact hK _ _ ⟨(.int .i64 0), (by show _ = Act.put _ (some 8) _; simp only [putAll, Act.put, List.setIfInBounds_toArray, List.set_cons_succ, List.set_cons_zero, *]), rfl, ExtT.refl _ _ _, hX⟩
        exact AllFrom.nil
      · intro D f w1 hall hB hR hX
        simp only [putAll, Act.put, List.setIfInBounds_toArray, List.set_cons_succ, List.set_cons_zero]
        go_wp2_with fail
        go_meet
        exact num_cut hB (hX (hall 11 (by decide))) (hR 8 (by decide))
    case rest =>
      obtain ⟨g5, s5, a5, n5, c5, o5, m5, d5, rfl, x5, cq5, b5⟩ := hcut
      have HB5 := Lib.hid (HB2.out.trans (b5.mono HB2.out.size))
      have XC5 := Lib.hid (carry XC2.out b5)
      have CQ5 := Lib.hid cq5.rq
      obtain ⟨q0, q1, q2, _⟩ := at_blockQ x5
      obtain ⟨i0, i1, i2, _⟩ := at_blockQ (carry XP2.out b5)
      clear x5 cq5 b5
      go_wp2_with fail
      refine (Mul_q s s5 ao bo a5 o5 n ca m cb n5 c5 m5 d5 k p (rq false z T) wc (KP.out wc HB5.out) (RQ.up CQ5.out hk (by omega)) (by omega)).mono ?_; rintro e W7 ⟨s7, a7, n7, c7, o7, m7, d7, rfl, cq7, b7⟩
      have xc7 := carry XC5.out b7
      have B7 := HB5.out.trans (b7.mono HB5.out.size)
      have hlt : w.heap.size + 1 + 1 < wc.heap.size := (Array.getElem?_eq_some_iff.1 XC5.out).1
      clear q0 q1 q2 i0 i1 i2
      obtain ⟨q0, q1, q2, z0, z1, z2⟩ := at_blockQ xc7
      have HCQ := Lib.hid cq7
      have HB7 := Lib.hid B7
      clear xc7 cq7 b7 B7
      go_wp2_with fail
      refine bodyPost_ret (v := .tuple #[.agg #[.bool s7, .slice a7 n7 c7, .slice o7 m7 d7], .int .i64 0]) (by simp [results, Tryz.results34, go_sem, q0, q1, q2]) rfl ?_
      exact QRes.lift HCQ.out (by rw [HQQ.out]) hlt (by omega) HB7.out _ _ _
  · have h1b : (y != 0) = true := by simp [h1]
    have HQZ : Hid (Q = 0) := by unfold Hid; rw [hQ]; exact uniQ_bad (by rw [← hy]; exact h1)
    clear hy hQ hb1 h1
    go_enter Tryz.func34, Tryz.ntmps34
    go_wp2_with fail
    rw [← hZ0, ← hZ1, ← hZ2]
    clear hZ0 hZ1 hZ2
    refine (V1.out _).mono ?_; rintro e W2 ⟨rfl, b2⟩
    have B2 := Lib.hid (HB1.out.trans (b2.mono HB1.out.size))
    have xc2 := carry XC.out b2
    clear b2 j0 j1 j2
    obtain ⟨q0, q1, q2, z0, z1, z2⟩ := at_blockQ xc2
    clear xc2
    go_wp2_with fail
    refine bodyPost_ret (v := .tuple #[.agg #[.bool false, .slice none 0 0, .slice none 0 0], .int .i64 y]) (by simp [results, Tryz.results34, go_sem, q0, q1, q2]) rfl ?_
    exact QRes.bad (by rw [HQZ.out, Rat.mul_zero]) (by omega) (by omega) (by first | exact below3 B2.out (by omega) _ _ _ | exact B2.out)

set_option maxHeartbeats 16000000 in
set_option maxRecDepth 100000 in
theorem rUnitPrice_v (s : Bool) (ao bo : Option Addr) (n ca m cb k : Nat) (p : Rat) (d c a : Int) (hb1 : QB d c a) (w : World) (hp : RQ w s ao n ca bo m cb p k) (hk : 2 ≤ k) (hk2 : k ≤ 100000) :
    Calls Tryz.prog 35 #[.agg #[.bool s, .slice ao n ca, .slice bo m cb], .agg #[.int .i64 d, .int .i64 c, .int .i64 a]] w (QRes (qwhy d c a) (p * uniQ d c a) (k + k + 1) w) := by
  obtain ⟨y, hy⟩ : ∃ y, y = qwhy d c a := ⟨_, rfl⟩
  have V1 : Hid (∀ w', Calls Tryz.prog 28 #[.agg #[.int .i64 d, .int .i64 c, .int .i64 a]] w' fun e w2 => e = .returned (.int .i64 y) ∧ Below w'.heap.size w' w2) := fun w' => by rw [hy]; exact rValidate_q d c a hb1 w'
  obtain ⟨Q, hQ⟩ : ∃ Q, Q = uniQ d c a := ⟨_, rfl⟩
  rw [← hy, ← hQ]
  obtain ⟨Z0, hZ0⟩ : ∃ W, W = w.alloc (.cells #[.bool s, .slice ao n ca, .slice bo m cb] 25) := ⟨_, rfl⟩
  obtain ⟨Z1, hZ1⟩ : ∃ W, W = Z0.alloc (.cells #[.int .i64 d, .int .i64 c, .int .i64 a] 39) := ⟨_, rfl⟩
  obtain ⟨Z2, hZ2⟩ : ∃ W, W = Z1.alloc (.cells #[.bool false, .slice none 0 0, .slice none 0 0] 25) := ⟨_, rfl⟩
  have sz0 : Z0.heap.size = w.heap.size + 1 := by rw [hZ0, World.size_alloc]
  have bz0 : Below w.heap.size w Z0 := by rw [hZ0]; exact below_new _ _
  have xz0 : Z0.heap[w.heap.size]? = some (.cells #[.bool s, .slice ao n ca, .slice bo m cb] 25 (0, 0)) := by rw [hZ0]; exact heap_alloc_new _ _
  have sz1 : Z1.heap.size = w.heap.size + 1 + 1 := by rw [hZ1, World.size_alloc, sz0]
  have bz1 : Below Z0.heap.size Z0 Z1 := by rw [hZ1]; exact below_new _ _
  have xz1 : Z1.heap[w.heap.size + 1]? = some (.cells #[.int .i64 d, .int .i64 c, .int .i64 a] 39 (0, 0)) := by rw [hZ1, ← sz0]; exact heap_alloc_new _ _
  have sz2 : Z2.heap.size = w.heap.size + 1 + 1 + 1 := by rw [hZ2, World.size_alloc, sz1]
  have bz2 : Below Z1.heap.size Z1 Z2 := by rw [hZ2]; exact below_new _ _
  have xz2 : Z2.heap[w.heap.size + 1 + 1]? = some (.cells #[.bool false, .slice none 0 0, .slice none 0 0] 25 (0, 0)) := by rw [hZ2, ← sz1]; exact heap_alloc_new _ _
  have XP := Lib.hid (carry (carry xz0 bz1) bz2)
  have XA := Lib.hid (carry xz1 bz2)
  have XC := Lib.hid xz2
  have HB1 := Lib.hid ((bz0.trans (bz1.mono bz0.size)).trans (bz2.mono (bz0.trans (bz1.mono bz0.size)).size))
  have HSZ := Lib.hid sz2
  clear bz0 xz0 bz1 xz1 bz2 xz2 sz0 sz1 sz2
  have KP : Hid (∀ w', Below w.heap.size w w' → RQ w' s ao n ca bo m cb p k) := fun w' hb => hp.below hb
  clear hp
  obtain ⟨j0, j1, j2, _⟩ := at_blockQ XA.out
  by_cases h1 : y = 0
  · have h1b : (y != 0) = false := by rw [h1]; rfl
    obtain ⟨v1, v2, _, _, _, _⟩ := qwhy_zero.1 (show qwhy d c a = 0 by rw [← hy]; exact h1)
    have t1 := qtot_pos (show qwhy d c a = 0 by rw [← hy]; exact h1)
    obtain ⟨T, hT⟩ : ∃ T : Nat, T = (qtot d c a).toNat := ⟨_, rfl⟩
    have hTq : qtot d c a = (T : Int) := by omega
    have TA : Hid (∀ w', Calls Tryz.prog 84 #[.agg #[.int .i64 d, .int .i64 c, .int .i64 a]] w' fun e w2 => e = .returned (.int .i64 (T : Int)) ∧ Below w'.heap.size w' w2) := fun w' => by
      have h := rTotal_q d c a hb1 w'
      rwa [hTq] at h
    obtain ⟨z, hz⟩ : ∃ z : Nat, z = (stdU d).size.toNat := ⟨_, rfl⟩
    have hzz : (stdU d).size = (z : Int) ∧ z ≤ 1000000 := by
      rcases first_mem (fun u => u.dim == d) with e | ⟨hm, _⟩
      · have : stdU d = Un.nil := e
        rw [hz, this]; decide
      · have := un_size (show stdU d ∈ cU from hm)
        omega
    have HQQ : Hid (rq false z T = Q) := by unfold Hid; rw [hQ, uniQ_ok (by rw [← hy]; exact h1), hz, hT]
    have FR : Hid (∀ w', Calls Tryz.prog 68 #[.int .i64 (z : Int), .int .i64 (T : Int)] w' (QRes 0 (rq false z T) 2 w')) := fun w' => rFracT z T (by omega) (by omega) (by omega) _ _ rfl rfl w'
    have HST : Hid (stF d 10 = (z : Int)) := by unfold Hid; rw [stF_all v1 v2, hzz.1]
    subst h1
    clear hy hQ hb1 t1 hT hTq hz hzz v1 v2
    go_enter Tryz.func35, Tryz.ntmps35
    go_wp2_with fail
    rw [← hZ0, ← hZ1, ← hZ2]
    clear hZ0 hZ1 hZ2
    refine (V1.out _).mono ?_; rintro e W2 ⟨rfl, b2⟩
    have HB2 := Lib.hid (HB1.out.trans (b2.mono HB1.out.size))
    have XC2 := Lib.hid (carry XC.out b2)
    have XP2 := Lib.hid (carry XP.out b2)
    have XA2 := Lib.hid (carry XA.out b2)
    clear b2 j0 j1 j2
    go_wp2_with fail
    refine (runits_v _).mono ?_; rintro e W3 ⟨gr, rfl, hrow, b3⟩
    have HB3 := Lib.hid (HB2.out.trans (b3.mono HB2.out.size))
    have XC3 := Lib.hid (carry XC2.out b3)
    have XP3 := Lib.hid (carry XP2.out b3)
    have XA3 := Lib.hid (carry XA2.out b3)
    have RW := Lib.hid hrow
    clear hrow b3
    go_wp2_with fail
    go_loopw [7, 20] (fun s7 s20 wr => ∃ i : Nat, i ≤ 10 ∧ s20 = .int .i64 (i : Int) ∧ s7 = .int .i64 (stF d i) ∧ Hid (Below W3.heap.size W3 wr)) (fun _ s20 _ => 10 - (intOf s20).toNat)
    case atStart => exact ⟨0, by omega, rfl, rfl, Below.refl _ _⟩
    case round =>
      obtain ⟨i, hi, rfl, rfl, hwr⟩ := hrel
      by_cases hlt : i < 10
      · have hlt2 : (i : Int) < 10 := by omega
        obtain ⟨u, hu⟩ : ∃ u, u = rU.getD i Un.nil := ⟨_, rfl⟩
        obtain ⟨e0, e1, e2⟩ := RRow.at (RW.out.below hwr.out) hlt
        rw [← hu] at e0 e1 e2
        obtain ⟨dm, hdm⟩ : ∃ x, x = u.dim := ⟨_, rfl⟩
        obtain ⟨N, hN⟩ : ∃ x, x = txtB u.name := ⟨_, rfl⟩
        obtain ⟨us, hus⟩ : ∃ x, x = u.size := ⟨_, rfl⟩
        have S1 : Hid (dm = d → stF d (i + 1) = us) := fun h => by rw [stF_succ hlt, ← hu, ← hdm, if_pos h, hus]
        have S2 : Hid (dm ≠ d → stF d (i + 1) = stF d i) := fun h => by rw [stF_succ hlt, ← hu, ← hdm, if_neg h]
        rw [← hdm] at e0
        rw [← hN] at e1
        rw [← hus] at e2
        obtain ⟨j0, j1, j2, _⟩ := at_blockQ (carry XA3.out hwr.out)
        have hne1 : w.heap.size + 1 ≠ wr.heap.size := by
          have := (Array.getElem?_eq_some_iff.1 (carry XA3.out hwr.out)).1
          omega
        have hg1 : w.heap.size + 1 < wr.heap.size := (Array.getElem?_eq_some_iff.1 (carry XA3.out hwr.out)).1
        have BN : Hid (Below W3.heap.size W3 (wr.alloc (.cells #[.int .i64 dm, .string N, .int .i64 us] 91))) := hwr.out.trans ((below_new _ _).mono hwr.out.size)
        obtain ⟨b0, hb0⟩ : ∃ b, b = stF d i := ⟨_, rfl⟩
        obtain ⟨b1, hb1⟩ : ∃ b, b = stF d (i + 1) := ⟨_, rfl⟩
        have HB1' := Lib.hid hb1
        unfold Hid at S1 S2
        rw [← hb1] at S1 S2
        rw [← hb0] at S2 ⊢
        have S1 := Lib.hid S1
        have S2 := Lib.hid S2
        clear hu hdm hN hus hb0 hb1
        by_cases hdd : dm = d
        · have HE := Lib.hid (S1.out hdd)
          subst hdd
          go_wp2_with fail
          go_roundw
          case rel => exact ⟨i + 1, by omega, by go_num, by rw [← HB1'.out, HE.out], BN⟩
          case measure => simp [intOf]; omega
        · have HE := Lib.hid (S2.out hdd)
          have hde : (dm == d) = false := by simp [hdd]
          clear hdd
          go_wp2_with fail
          go_roundw
          case rel => exact ⟨i + 1, by omega, by go_num, by rw [← HB1'.out, HE.out], BN⟩
          case measure => simp [intOf]; omega
      · obtain rfl : i = 10 := by omega
        have BW := Lib.hid (HB3.out.trans (hwr.out.mono HB3.out.size))
        obtain ⟨j0, j1, j2, _⟩ := at_blockQ (carry XA3.out hwr.out)
        have XCw := Lib.hid (carry XC3.out hwr.out)
        have XPw := Lib.hid (carry XP3.out hwr.out)
        rw [HST.out]
        go_wp2_with fail
        refine (TA.out _).mono ?_; rintro e W4 ⟨rfl, b4⟩
        have B4 := Lib.hid (BW.out.trans (b4.mono BW.out.size))
        have XC4 := Lib.hid (carry XCw.out b4)
        have XP4 := Lib.hid (carry XPw.out b4)
        clear b4 j0 j1 j2
        go_wp2_with fail
        refine (FR.out _).mono ?_; rintro e W5 ⟨s5, a5, n5, c5, o5, m5, d5, rfl, cq5, b5⟩
        have n6 := below_new W5 (.cells #[.bool s5, .slice a5 n5 c5, .slice o5 m5 d5] 25)
        have y6 := heap_alloc_new W5 (.cells #[.bool s5, .slice a5 n5 c5, .slice o5 m5 d5] 25)
        have HB5 := Lib.hid ((B4.out.trans (b5.mono B4.out.size)).trans (n6.mono (Nat.le_trans B4.out.size b5.size)))
        have XC5 := Lib.hid (carry (carry XC4.out b5) n6)
        have xp6 := carry (carry XP4.out b5) n6
        have CQ5 := Lib.hid (cq5.below n6).rq
        obtain ⟨W6, hW6⟩ : ∃ W, W = W5.alloc (.cells #[.bool s5, .slice a5 n5 c5, .slice o5 m5 d5] 25) := ⟨_, rfl⟩
        obtain ⟨g6, hg6⟩ : ∃ g, g = W5.heap.size := ⟨_, rfl⟩
        unfold Hid at HB5 XC5 CQ5
        rw [← hW6] at HB5 XC5 CQ5 xp6 y6
        rw [← hg6] at y6
        have HB5 := Lib.hid HB5
        have XC5 := Lib.hid XC5
        have CQ5 := Lib.hid CQ5
        obtain ⟨q0, q1, q2, _⟩ := at_blockQ y6
        obtain ⟨i0, i1, i2, _⟩ := at_blockQ xp6
        clear xp6 y6 cq5 n6 b5
        go_upto_region 12 with fail
        rw [← hW6, ← hg6]
        clear hW6 hg6
        go_wp2_with fail
        refine (rMul_q s s5 ao bo a5 o5 n ca m cb n5 c5 m5 d5 k p (rq false z T) W6 (KP.out W6 HB5.out) (RQ.up CQ5.out hk (by omega)) (by omega)).mono ?_; rintro e W7 ⟨s7, a7, n7, c7, o7, m7, d7, rfl, cq7, b7⟩
        have xc7 := carry XC5.out b7
        have B7 := HB5.out.trans (b7.mono HB5.out.size)
        have hlt : w.heap.size + 1 + 1 < W6.heap.size := (Array.getElem?_eq_some_iff.1 XC5.out).1
        clear q0 q1 q2 i0 i1 i2
        obtain ⟨q0, q1, q2, z0, z1, z2⟩ := at_blockQ xc7
        have HCQ := Lib.hid cq7
        have HB7 := Lib.hid B7
        clear xc7 cq7 b7 B7
        go_wp2_with fail
        refine bodyPost_ret (v := .tuple #[.agg #[.bool s7, .slice a7 n7 c7, .slice o7 m7 d7], .int .i64 0]) (by simp [results, Tryz.results35, go_sem, q0, q1, q2]) rfl ?_
        exact QRes.lift HCQ.out (by rw [HQQ.out]) hlt (by omega) HB7.out _ _ _
  · have h1b : (y != 0) = true := by simp [h1]
    have HQZ : Hid (Q = 0) := by unfold Hid; rw [hQ]; exact uniQ_bad (by rw [← hy]; exact h1)
    clear hy hQ hb1 h1
    go_enter Tryz.func35, Tryz.ntmps35
    go_wp2_with fail
    rw [← hZ0, ← hZ1, ← hZ2]
    clear hZ0 hZ1 hZ2
    refine (V1.out _).mono ?_; rintro e W2 ⟨rfl, b2⟩
    have B2 := Lib.hid (HB1.out.trans (b2.mono HB1.out.size))
    have xc2 := carry XC.out b2
    clear b2 j0 j1 j2
    obtain ⟨q0, q1, q2, z0, z1, z2⟩ := at_blockQ xc2
    clear xc2
    go_wp2_with fail
    refine bodyPost_ret (v := .tuple #[.agg #[.bool false, .slice none 0 0, .slice none 0 0], .int .i64 y]) (by simp [results, Tryz.results35, go_sem, q0, q1, q2]) rfl ?_
    exact QRes.bad (by rw [HQZ.out, Rat.mul_zero]) (by omega) (by omega) (by first | exact below3 B2.out (by omega) _ _ _ | exact B2.out)
end Go.Proofs.YtobiepkhommeaaaGreatDoor
