import Derived.Test.YtobiepkhommeaaaGreatDoorTapes
import Derived.Test.YtobiepkhommeaaaGreatDoorQty17
/- Quantities: a number of a tape. -/
namespace Go.Proofs.YtobiepkhommeaaaGreatDoor
open Go.RowKit Go.Sort C6

set_option maxHeartbeats 8000000 in
set_option maxRecDepth 100000 in
theorem mFrac_q (a b : Nat) (ha : a ≤ 1000) (hb1 : 1 ≤ b) (hb : b ≤ 1000) (i j : Int) (hi : i = (a : Int)) (hj : j = (b : Int)) (w : World) : Calls Tryz.prog 86 #[.int .i64 i, .int .i64 j] w (MakesQ (rq false a b) 2 w) := by
  subst hi hj
  have bz := below_new w (.cells #[.bool false, .slice none 0 0, .slice none 0 0] 25)
  have xz := heap_alloc_new w (.cells #[.bool false, .slice none 0 0, .slice none 0 0] 25)
  obtain ⟨W1, hW1⟩ : ∃ W, W = w.alloc (.cells #[.bool false, .slice none 0 0, .slice none 0 0] 25) := ⟨_, rfl⟩
  rw [← hW1] at bz xz
  have FR : Hid (∀ w', Calls Tryz.prog 68 #[.int .i64 (a : Int), .int .i64 (b : Int)] w' (QRes 0 (rq false a b) 2 w')) := fun w' => rFracT a b (by omega) (by omega) (by omega) _ _ rfl rfl w'
  have B1 := Lib.hid bz
  have X1 := Lib.hid xz
  have ha0 : (a : Int) ≤ 1000 := by omega
  have hb0 : (b : Int) ≤ 1000 := by omega
  clear bz xz
  go_enter Tryz.func86, Tryz.ntmps86
  go_wp2_with fail
  rw [← hW1]
  clear hW1
  refine (FR.out _).mono ?_; rintro e W2 ⟨s2, a2, n2, c2, o2, m2, d2, rfl, cq2, b2⟩
  have n3 := below_new W2 (.cells #[.bool s2, .slice a2 n2 c2, .slice o2 m2 d2] 25)
  have y3 := heap_alloc_new W2 (.cells #[.bool s2, .slice a2 n2 c2, .slice o2 m2 d2] 25)
  have x3 := carry (carry X1.out b2) n3
  have B3 := (B1.out.trans (b2.mono B1.out.size)).trans (n3.mono (Nat.le_trans B1.out.size b2.size))
  have cq3 := cq2.below n3
  have hlt : w.heap.size < W1.heap.size := (Array.getElem?_eq_some_iff.1 X1.out).1
  obtain ⟨W3, hW3⟩ : ∃ W, W = W2.alloc (.cells #[.bool s2, .slice a2 n2 c2, .slice o2 m2 d2] 25) := ⟨_, rfl⟩
  rw [← hW3] at y3 x3 B3 cq3
  obtain ⟨q0, q1, q2, z0, z1, z2⟩ := at_blockQ x3
  obtain ⟨f0, f1, f2, _⟩ := at_blockQ y3
  have C3 := Lib.hid cq3
  have HB3 := Lib.hid B3
  clear n3 b2 cq2 cq3 x3 y3 B3
  go_upto_region 2 with fail
  rw [← hW3]
  clear hW3
  go_wp2_with fail
  refine bodyPost_ret (v := .agg #[.bool s2, .slice a2 n2 c2, .slice o2 m2 d2]) (by simp [results, Tryz.results86, go_sem, q0, q1, q2]) rfl ?_
  exact MakesQ.lift C3.out rfl hlt (Nat.le_refl _) HB3.out _ _ _
def TRPost (w : World) (B : Nat) (ao : Option Addr) (n cap i : Nat) (e : Ending) (w' : World) : Prop := ∃ s a l c o m d q, e = .returned (.agg #[.bool s, .slice a l c, .slice o m d]) ∧ CQ w.heap.size w' s a l c o m d q 2 ∧ w.grownBy w' (some B) ∧ Tap w' B ao n cap (i + 2)

set_option maxHeartbeats 8000000 in
set_option maxRecDepth 100000 in
theorem TRatio_v (B : Nat) (ao : Option Addr) (cap : Nat) (ts : List Int) (i : Nat) (w : World) (hb : Tap w B ao ts.length cap i) (ht : RdZ w ao cap ts) (htB : 0 < (intz ts).length → ∀ b o, ao = some ⟨b, o, none⟩ → b < B) (hi : i ≤ 900) :
    Calls Tryz.prog 38 #[.pointer (some ⟨B, 0, none⟩)] w (TRPost w B ao ts.length cap i) := by
  obtain ⟨W1, hW1⟩ : ∃ W, W = w.alloc (.cells #[.bool false, .slice none 0 0, .slice none 0 0] 25) := ⟨_, rfl⟩
  have hBl := hb.lt
  have T1 : Tap W1 B ao ts.length cap i := by rw [hW1]; exact hb.alloc _
  have B1 : Below w.heap.size w W1 := by rw [hW1]; exact below_new _ _
  have s1 : W1.heap.size = w.heap.size + 1 := by rw [hW1]; exact World.size_alloc _ _
  have g1 : w.grownBy W1 (some B) := below_gb B1 _
  have R1 : RdZ W1 ao cap ts := rd_gb ht htB (Nat.le_of_lt hBl) g1
  have x1 : W1.heap[w.heap.size]? = some (.cells #[.bool false, .slice none 0 0, .slice none 0 0] 25 (0, 0)) := by rw [hW1]; exact heap_alloc_new _ _
  have HT1 := Lib.hid T1
  have HR1 := Lib.hid R1
  have HG1 := Lib.hid g1
  have HX1 := Lib.hid x1
  have HTB := Lib.hid htB
  have HS1 := Lib.hid s1
  clear hb ht htB T1 R1 g1 x1 B1 s1
  go_enter Tryz.func38, Tryz.ntmps38
  go_wp2_with fail
  rw [← hW1]
  clear hW1
  refine (Next_v B ao cap ts i 40 _ HT1.out HR1.out (by omega) (by omega) (by omega) 40 rfl).mono ?_; rintro e w2 ⟨r1, rfl, hr1, g2, z2, t2⟩
  have HT2 := Lib.hid t2
  have HR2 := Lib.hid (rd_gb HR1.out HTB.out (Nat.le_of_lt HT1.out.lt) g2)
  have HX2 := Lib.hid ((g2.block _ (Array.getElem?_eq_some_iff.1 HX1.out).1 (by simp; omega)).trans HX1.out)
  have HG2 := Lib.hid (gb_trans HG1.out g2)
  clear g2 z2 t2
  obtain ⟨x, hx⟩ : ∃ x : Nat, x = 1 + r1 := ⟨_, rfl⟩
  have hxb : x ≤ 40 := by omega
  have hxi : 1 + (r1 : Int) = (x : Int) := by omega
  have hxw : IntKind.i64.wrap (x : Int) = (x : Int) := IntWalk.i64_in _ (by omega)
  clear hx hr1
  go_wp2_with fail
  refine (Next_v B ao cap ts (i + 1) 12 _ HT2.out HR2.out (by omega) (by omega) (by omega) 12 rfl).mono ?_; rintro e w3 ⟨r2, rfl, hr2, g3, z3, t3⟩
  have HT3 := Lib.hid t3
  have HX3 := Lib.hid ((g3.block _ (Array.getElem?_eq_some_iff.1 HX2.out).1 (by simp; omega)).trans HX2.out)
  have HG3 := Lib.hid (gb_trans HG2.out g3)
  clear g3 z3 t3
  obtain ⟨y, hy⟩ : ∃ y : Nat, y = 1 + r2 := ⟨_, rfl⟩
  have hy1 : 1 ≤ y := by omega
  have hyb : y ≤ 12 := by omega
  have hyi : 1 + (r2 : Int) = (y : Int) := by omega
  have hyw : IntKind.i64.wrap (y : Int) = (y : Int) := IntWalk.i64_in _ (by omega)
  have FQ := Lib.hid (mFrac_q x y (by omega) hy1 (by omega) _ _ rfl rfl w3)
  clear hy hr2
  go_wp2_with fail
  refine FQ.out.mono ?_; rintro e w4 ⟨s, a, l, c, o, m, d, rfl, cq, b4⟩
  have x4 := carry HX3.out b4
  have g4 := gb_trans HG3.out (below_gb b4 (some B))
  have t4 := HT3.out.keep b4
  obtain ⟨q0, q1, q2, z0, z1, z2⟩ := at_blockQ x4
  have hsw : w.heap.size < w3.heap.size := (Array.getElem?_eq_some_iff.1 HX3.out).1
  have HC := Lib.hid (cq.mono (B' := w.heap.size + 1) (by omega))
  have HG4 := Lib.hid g4
  have HT4 := Lib.hid t4
  clear x4 g4 t4 cq b4
  go_wp2_with fail
  refine bodyPost_ret (v := .agg #[.bool s, .slice a l c, .slice o m d]) (by simp [results, Tryz.results38, go_sem, q0, q1, q2]) rfl ?_
  refine ⟨s, a, l, c, o, m, d, _, rfl, (((HC.out.set_at _ _).set_at _ _).set_at _ _).mono (by omega), gb_far3 HG4.out (Nat.le_refl _) _ _ _, ?_⟩
  have := HT4.out
  unfold Tap at this ⊢
  rw [set3_off (by omega)]
  exact this
end Go.Proofs.YtobiepkhommeaaaGreatDoor
