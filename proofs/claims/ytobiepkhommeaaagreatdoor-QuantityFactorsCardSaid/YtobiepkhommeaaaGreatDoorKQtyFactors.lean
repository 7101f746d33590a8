import Derived.Test.YtobiepkhommeaaaGreatDoorQty18
import Derived.Test.YtobiepkhommeaaaGreatDoorQty19
import Derived.Test.YtobiepkhommeaaaGreatDoorQtysB
import Derived.Test.YtobiepkhommeaaaGreatDoorTwoF
import Derived.Test.YtobiepkhommeaaaGreatDoorPows2
import Derived.Deep.RegionHeld3
import Derived.Test.YtobiepkhommeaaaGreatDoorFacts8g
import Derived.Test.YtobiepkhommeaaaGreatDoorFrame8l
/- QuantityFactors: the walk. -/
namespace Go.Proofs.YtobiepkhommeaaaGreatDoor
open Go.RowKit Go.Sort C6

def SixP (w : World) (g : Nat) : Prop := ∃ x1 y1 z1 x2 y2 z2 : Int, w.heap[g]? = some (.cells #[.int .i64 x1, .int .i64 y1, .int .i64 z1, .int .i64 x2, .int .i64 y2, .int .i64 z2] 39 (0, 0)) ∧ QB x1 y1 z1 ∧ QB x2 y2 z2
theorem rowF {w : World} {go g1 g2 g3 g4 : Nat} {t : TypeId} (h : w.heap[go]? = some (.cells #[.slice (some ⟨g1, 0, none⟩) 2 2, .slice (some ⟨g2, 0, none⟩) 2 2, .slice (some ⟨g3, 0, none⟩) 2 2, .slice (some ⟨g4, 0, none⟩) 2 2] t (0, 0))) (h1 : SixP w g1) (h2 : SixP w g2) (h3 : SixP w g3) (h4 : SixP w g4) {i : Nat} (hi : i < 4) : ∃ g, w.cell? ⟨go, i, none⟩ = some (.slice (some ⟨g, 0, none⟩) 2 2) ∧ SixP w g := by
  have : i = 0 ∨ i = 1 ∨ i = 2 ∨ i = 3 := by omega
  rcases this with rfl | rfl | rfl | rfl
  · exact ⟨g1, by simp [World.cell?, h], h1⟩
  · exact ⟨g2, by simp [World.cell?, h], h2⟩
  · exact ⟨g3, by simp [World.cell?, h], h3⟩
  · exact ⟨g4, by simp [World.cell?, h], h4⟩
theorem at_six {w : World} {g : Nat} {a b c d e f : Value} {t : TypeId} (h : w.heap[g]? = some (.cells #[a, b, c, d, e, f] t (0, 0))) : w.cell? ⟨g, 0, none⟩ = some a ∧ w.cell? ⟨g, 1, none⟩ = some b ∧ w.cell? ⟨g, 2, none⟩ = some c ∧ w.cell? ⟨g, 3, none⟩ = some d ∧ w.cell? ⟨g, 4, none⟩ = some e ∧ w.cell? ⟨g, 5, none⟩ = some f := by
  refine ⟨?_, ?_, ?_, ?_, ?_, ?_⟩ <;> simp [World.cell?, h]

set_option maxHeartbeats 40000000 in
set_option maxRecDepth 100000 in
theorem QuantityFactors_any (s : Bool) (ao bo : Option Addr) (ca cb : Nat) (xs ys : List Nat) (d1 c1 a1 d2 c2 a2 : Int) (tao : Option Addr) (ts : List Int) (cap : Nat) (w : World) (hx : Rd w ao ca xs) (hy : Rd w bo cb ys) (hq1 : QB d1 c1 a1) (hq2 : QB d2 c2 a2) (hr : RdZ w tao cap ts) (he : Env w) :
    Calls Tryz.prog 7 #[.agg #[.bool s, .slice ao xs.length ca, .slice bo ys.length cb], .agg #[.int .i64 d1, .int .i64 c1, .int .i64 a1], .agg #[.int .i64 d2, .int .i64 c2, .int .i64 a2], .slice tao ts.length cap] w fun e w' => e = .returned (.bool true) ∧ Below w.heap.size w w' := by
  obtain ⟨us, hu⟩ : ∃ us, us = xs.take 1 := ⟨_, rfl⟩
  obtain ⟨vs, hv⟩ : ∃ vs, vs = ys.take 1 := ⟨_, rfl⟩
  obtain ⟨n1, hn1⟩ : ∃ n, n = us.length := ⟨_, rfl⟩
  obtain ⟨m1, hm1⟩ : ∃ n, n = vs.length := ⟨_, rfl⟩
  have SM : Hid (∀ w', Below w.heap.size w w' → Calls Tryz.prog 31 #[.agg #[.bool s, .slice ao xs.length ca, .slice bo ys.length cb]] w' fun e w2 => e = .returned (.agg #[.bool s, .slice ao n1 ca, .slice bo m1 cb]) ∧ Below w'.heap.size w' w2) := fun w' hb => by
    rw [hn1, hm1]; exact Small_any s ao bo ca cb xs ys us vs w' (hx.below hb) (hy.below hb) hu hv
  obtain ⟨nx, hnx⟩ : ∃ n, n = xs.length := ⟨_, rfl⟩
  obtain ⟨ny, hny⟩ : ∃ n, n = ys.length := ⟨_, rfl⟩
  obtain ⟨nts, hnts⟩ : ∃ n, n = ts.length := ⟨_, rfl⟩
  unfold Hid at SM
  rw [← hnx, ← hny] at SM ⊢
  have SM := Lib.hid SM
  obtain ⟨Z0, hZ0⟩ : ∃ W, W = w.alloc (.cells #[.bool s, .slice ao nx ca, .slice bo ny cb] 25) := ⟨_, rfl⟩
  obtain ⟨Z1, hZ1⟩ : ∃ W, W = Z0.alloc (.cells #[.int .i64 d1, .int .i64 c1, .int .i64 a1] 39) := ⟨_, rfl⟩
  obtain ⟨Z2, hZ2⟩ : ∃ W, W = Z1.alloc (.cells #[.int .i64 d2, .int .i64 c2, .int .i64 a2] 39) := ⟨_, rfl⟩
  obtain ⟨g0, hg0⟩ : ∃ g, g = w.heap.size := ⟨_, rfl⟩
  have s0 : Z0.heap.size = g0 + 1 := by rw [hZ0, World.size_alloc, hg0]
  have s1 : Z1.heap.size = g0 + 1 + 1 := by rw [hZ1, World.size_alloc, s0]
  have s2 : Z2.heap.size = g0 + 1 + 1 + 1 := by rw [hZ2, World.size_alloc, s1]
  have b0 : Below w.heap.size w Z0 := by rw [hZ0]; exact below_new _ _
  have b1 : Below Z0.heap.size Z0 Z1 := by rw [hZ1]; exact below_new _ _
  have b2 : Below Z1.heap.size Z1 Z2 := by rw [hZ2]; exact below_new _ _
  have x0 : Z0.heap[g0]? = some (.cells #[.bool s, .slice ao nx ca, .slice bo ny cb] 25 (0, 0)) := by rw [hZ0, hg0]; exact heap_alloc_new _ _
  have x1 : Z1.heap[g0 + 1]? = some (.cells #[.int .i64 d1, .int .i64 c1, .int .i64 a1] 39 (0, 0)) := by rw [hZ1, ← s0]; exact heap_alloc_new _ _
  have x2 : Z2.heap[g0 + 1 + 1]? = some (.cells #[.int .i64 d2, .int .i64 c2, .int .i64 a2] 39 (0, 0)) := by rw [hZ2, ← s1]; exact heap_alloc_new _ _
  have X0 := Lib.hid (carry (carry x0 b1) b2)
  have X1 := Lib.hid (carry x1 b2)
  have X2 := Lib.hid x2
  have B2 := Lib.hid ((b0.trans (b1.mono b0.size)).trans (b2.mono (Nat.le_trans b0.size b1.size)))
  have HS2 := Lib.hid s2
  have HG0 := Lib.hid hg0
  have SM2 := SM.out Z2 B2.out
  have SMZ := Lib.hid SM2
  obtain ⟨i0, i1, i2, _⟩ := at_blockQ X0.out
  have EN := Lib.hid he
  have HNT := Lib.hid hnts
  have HR := Lib.hid hr
  have HX : Hid (RQ w s ao n1 ca bo m1 cb (rq s (val us) (dn (val vs))) 2) := by
    rw [hn1, hm1]; exact small_rq hx hy hu hv
  rw [← hnts]
  clear b0 b1 b2 x0 x1 x2 s0 s1 s2 SM SM2 hx hy hu hv hn1 hm1 hnx hny he hr hnts
  go_enter Tryz.func7, Tryz.ntmps7
  go_wp2_with fail
  rw [← hZ0, ← hZ1, ← hZ2]
  rw [← hg0]
  clear hZ0 hZ1 hZ2 hg0
  refine SMZ.out.mono ?_; rintro e w3 ⟨rfl, b3⟩
  obtain ⟨V3, hV3⟩ : ∃ W, W = ((w3.setCell ⟨g0, 0, none⟩ (.bool s)).setCell ⟨g0, 1, none⟩ (.slice ao n1 ca)).setCell ⟨g0, 2, none⟩ (.slice bo m1 cb) := ⟨_, rfl⟩
  have y0 : V3.heap[g0]? = some (.cells #[.bool s, .slice ao n1 ca, .slice bo m1 cb] 25 (0, 0)) := by rw [hV3]; exact set3_at (carry X0.out b3) _ _ _
  have y1 : V3.heap[g0 + 1]? = some (.cells #[.int .i64 d1, .int .i64 c1, .int .i64 a1] 39 (0, 0)) := by rw [hV3]; exact (set3_off (by omega) _ _ _).trans (carry X1.out b3)
  have y2 : V3.heap[g0 + 1 + 1]? = some (.cells #[.int .i64 d2, .int .i64 c2, .int .i64 a2] 39 (0, 0)) := by rw [hV3]; exact (set3_off (by omega) _ _ _).trans (carry X2.out b3)
  have b4 : Below w.heap.size w V3 := by rw [hV3]; exact below3 (B2.out.trans (b3.mono B2.out.size)) (by have := HG0.out; omega) _ _ _
  have sz : g0 + 1 + 1 + 1 ≤ V3.heap.size := by
    have h1 := b3.size
    have h2 := HS2.out
    rw [hV3, World.size_setCell, World.size_setCell, World.size_setCell]
    omega
  have f0 := (at_blockQ (carry X0.out b3))
  obtain ⟨j0, j1, j2, k0, k1, k2⟩ := f0
  have Y0 := Lib.hid y0
  have Y1 := Lib.hid y1
  have Y2 := Lib.hid y2
  have B4 := Lib.hid b4
  have HS := Lib.hid sz
  clear y0 y1 y2 b4 sz SMZ X0 X1 X2 B2 HS2 b3 i0 i1 i2
  obtain ⟨W1, hW1⟩ : ∃ W, W = V3.alloc (.cells #[.slice tao nts cap, .int .i64 0] 43) := ⟨_, rfl⟩
  obtain ⟨BB, hBB⟩ : ∃ B, B = w3.heap.size := ⟨_, rfl⟩
  have hBV : BB = V3.heap.size := by rw [hV3, World.size_setCell, World.size_setCell, World.size_setCell, hBB]
  have HBV := Lib.hid hBV
  have b1 : Below V3.heap.size V3 W1 := by rw [hW1]; exact below_new _ _
  have hT : Tap W1 BB tao ts.length cap 0 := by rw [hW1, hBV, HNT.out]; exact Tap.new _ _ _ _
  have hR : RdZ W1 tao cap ts := RdV.below (RdV.below HR.out B4.out) b1
  have hTB : 0 < (intz ts).length → ∀ b o, tao = some ⟨b, o, none⟩ → b < BB := fun h b o e => by
    have := HR.out.lt h b o e
    have := B4.out.size
    omega
  have HQ : Hid (∀ i w', i ≤ 900 → RdZ w' tao cap ts → Tap w' BB tao nts cap i → Calls Tryz.prog 22 #[.pointer (some ⟨BB, 0, none⟩)] w' (TQPost w' BB tao nts cap i)) := fun i w' hi hr' ht' => by
    rw [HNT.out] at ht' ⊢; exact TQuantity_v BB tao cap ts i w' ht' hr' hTB hi
  rw [← HNT.out] at hT
  have HT1 := Lib.hid hT
  have HR1 := Lib.hid hR
  have HTB := Lib.hid hTB
  have B1 := Lib.hid b1
  clear hT hR hTB b1 hBV
  go_upto_region 3 with fail
  rw [← hV3, ← hW1, ← hBB]
  clear hV3 hW1 hBB j0 j1 j2 k0 k1 k2
  go_wp2_with fail
  refine (HQ.out 0 _ (by omega) HR1.out HT1.out).mono ?_; rintro e w4 ⟨d3, c3, a3, rfl, hd3, hc3, ha3, g4, t4⟩
  have HT4 := Lib.hid t4
  have HR4 := Lib.hid (rd_gb HR1.out HTB.out (Nat.le_of_lt HT1.out.lt) g4)
  have HG4 := Lib.hid g4
  clear g4 t4
  go_wp2_with fail
  refine (HQ.out _ _ (by omega) HR4.out HT4.out).mono ?_; rintro e w5 ⟨d4, c4, a4, rfl, hd4, hc4, ha4, g5, t5⟩
  have HG5 := Lib.hid (gb_trans HG4.out g5)
  have q3 : QB (d3 : Int) (c3 : Int) (a3 : Int) := ⟨by omega, by omega, by omega, by omega, by omega, by omega⟩
  have q4 : QB (d4 : Int) (c4 : Int) (a4 : Int) := ⟨by omega, by omega, by omega, by omega, by omega, by omega⟩
  have HQ3 := Lib.hid q3
  have HQ4 := Lib.hid q4
  have b5 : Below V3.heap.size V3 w5 := B1.out.trans (gb_below HG5.out (by have := B1.out.size; have := HBV.out; omega) |>.mono (by have := HBV.out; omega))
  have z0 := carry Y0.out b5
  have z1 := carry Y1.out b5
  have z2 := carry Y2.out b5
  have HB5 := Lib.hid b5
  clear g5 t5 hd3 hc3 ha3 hd4 hc4 ha4 q3 q4 b5
  obtain ⟨gb, hgb⟩ : ∃ g, g = w5.heap.size := ⟨_, rfl⟩
  obtain ⟨U1, hU1⟩ : ∃ W, W = w5.alloc (.cells #[.int .i64 (d3 : Int), .int .i64 (c3 : Int), .int .i64 (a3 : Int)] 39) := ⟨_, rfl⟩
  obtain ⟨U2, hU2⟩ : ∃ W, W = U1.alloc (.cells #[.int .i64 (d4 : Int), .int .i64 (c4 : Int), .int .i64 (a4 : Int)] 39) := ⟨_, rfl⟩
  have sU1 : U1.heap.size = gb + 1 := by rw [hU1, World.size_alloc, hgb]
  have bU1 : Below w5.heap.size w5 U1 := by rw [hU1]; exact below_new _ _
  have xU1 : U1.heap[gb]? = some (.cells #[.int .i64 (d3 : Int), .int .i64 (c3 : Int), .int .i64 (a3 : Int)] 39 (0, 0)) := by rw [hU1, hgb]; exact heap_alloc_new _ _
  have sU2 : U2.heap.size = gb + 1 + 1 := by rw [hU2, World.size_alloc, sU1]
  have bU2 : Below U1.heap.size U1 U2 := by rw [hU2]; exact below_new _ _
  have xU2 : U2.heap[gb + 1]? = some (.cells #[.int .i64 (d4 : Int), .int .i64 (c4 : Int), .int .i64 (a4 : Int)] 39 (0, 0)) := by rw [hU2, ← sU1]; exact heap_alloc_new _ _
  have X3 := Lib.hid (carry xU1 bU2)
  have X4 := Lib.hid xU2
  have BCgb := Lib.hid (bU1.trans (bU2.mono bU1.size))
  have SCgb := Lib.hid sU2
  have HCgb := Lib.hid hgb
  clear sU1 bU1 xU1 sU2 bU2 xU2
  have P0 := Lib.hid (carry z0 BCgb.out)
  have P1 := Lib.hid (carry z1 BCgb.out)
  have P2 := Lib.hid (carry z2 BCgb.out)
  clear z0 z1 z2
  go_upto_region 4 with fail
  rw [← hU1, ← hU2, ← hgb]
  clear hU1 hU2 hgb
  obtain ⟨e10, e11, e12, _⟩ := at_blockQ P1.out
  obtain ⟨e20, e21, e22, _⟩ := at_blockQ P2.out
  obtain ⟨e30, e31, e32, _⟩ := at_blockQ X3.out
  obtain ⟨e40, e41, e42, _⟩ := at_blockQ X4.out
  have lt00 : g0 + 1 < U2.heap.size := by have := HS.out; have := HBV.out; have := HB5.out.size; have := SCgb.out; have := HCgb.out; omega
  have ne00 : g0 + 1 ≠ U2.heap.size := by omega
  have lt01 : g0 + 1 < U2.heap.size + 1 := by have := HS.out; have := HBV.out; have := HB5.out.size; have := SCgb.out; have := HCgb.out; omega
  have ne01 : g0 + 1 ≠ U2.heap.size + 1 := by omega
  have lt02 : g0 + 1 < U2.heap.size + 1 + 1 := by have := HS.out; have := HBV.out; have := HB5.out.size; have := SCgb.out; have := HCgb.out; omega
  have ne02 : g0 + 1 ≠ U2.heap.size + 1 + 1 := by omega
  have lt03 : g0 + 1 < U2.heap.size + 1 + 1 + 1 := by have := HS.out; have := HBV.out; have := HB5.out.size; have := SCgb.out; have := HCgb.out; omega
  have ne03 : g0 + 1 ≠ U2.heap.size + 1 + 1 + 1 := by omega
  have lt10 : g0 + 1 + 1 < U2.heap.size := by have := HS.out; have := HBV.out; have := HB5.out.size; have := SCgb.out; have := HCgb.out; omega
  have ne10 : g0 + 1 + 1 ≠ U2.heap.size := by omega
  have lt11 : g0 + 1 + 1 < U2.heap.size + 1 := by have := HS.out; have := HBV.out; have := HB5.out.size; have := SCgb.out; have := HCgb.out; omega
  have ne11 : g0 + 1 + 1 ≠ U2.heap.size + 1 := by omega
  have lt12 : g0 + 1 + 1 < U2.heap.size + 1 + 1 := by have := HS.out; have := HBV.out; have := HB5.out.size; have := SCgb.out; have := HCgb.out; omega
  have ne12 : g0 + 1 + 1 ≠ U2.heap.size + 1 + 1 := by omega
  have lt13 : g0 + 1 + 1 < U2.heap.size + 1 + 1 + 1 := by have := HS.out; have := HBV.out; have := HB5.out.size; have := SCgb.out; have := HCgb.out; omega
  have ne13 : g0 + 1 + 1 ≠ U2.heap.size + 1 + 1 + 1 := by omega
  have lt20 : gb < U2.heap.size := by have := HS.out; have := HBV.out; have := HB5.out.size; have := SCgb.out; have := HCgb.out; omega
  have ne20 : gb ≠ U2.heap.size := by omega
  have lt21 : gb < U2.heap.size + 1 := by have := HS.out; have := HBV.out; have := HB5.out.size; have := SCgb.out; have := HCgb.out; omega
  have ne21 : gb ≠ U2.heap.size + 1 := by omega
  have lt22 : gb < U2.heap.size + 1 + 1 := by have := HS.out; have := HBV.out; have := HB5.out.size; have := SCgb.out; have := HCgb.out; omega
  have ne22 : gb ≠ U2.heap.size + 1 + 1 := by omega
  have lt23 : gb < U2.heap.size + 1 + 1 + 1 := by have := HS.out; have := HBV.out; have := HB5.out.size; have := SCgb.out; have := HCgb.out; omega
  have ne23 : gb ≠ U2.heap.size + 1 + 1 + 1 := by omega
  have lt30 : gb + 1 < U2.heap.size := by have := HS.out; have := HBV.out; have := HB5.out.size; have := SCgb.out; have := HCgb.out; omega
  have ne30 : gb + 1 ≠ U2.heap.size := by omega
  have lt31 : gb + 1 < U2.heap.size + 1 := by have := HS.out; have := HBV.out; have := HB5.out.size; have := SCgb.out; have := HCgb.out; omega
  have ne31 : gb + 1 ≠ U2.heap.size + 1 := by omega
  have lt32 : gb + 1 < U2.heap.size + 1 + 1 := by have := HS.out; have := HBV.out; have := HB5.out.size; have := SCgb.out; have := HCgb.out; omega
  have ne32 : gb + 1 ≠ U2.heap.size + 1 + 1 := by omega
  have lt33 : gb + 1 < U2.heap.size + 1 + 1 + 1 := by have := HS.out; have := HBV.out; have := HB5.out.size; have := SCgb.out; have := HCgb.out; omega
  have ne33 : gb + 1 ≠ U2.heap.size + 1 + 1 + 1 := by omega
  obtain ⟨gc, hgc⟩ : ∃ g, g = U2.heap.size := ⟨_, rfl⟩
  obtain ⟨U3, hU3⟩ : ∃ W, W = U2.alloc (.cells #[.int .i64 d1, .int .i64 c1, .int .i64 a1, .int .i64 d2, .int .i64 c2, .int .i64 a2] 39) := ⟨_, rfl⟩
  obtain ⟨U4, hU4⟩ : ∃ W, W = U3.alloc (.cells #[.int .i64 (d3 : Int), .int .i64 (c3 : Int), .int .i64 (a3 : Int), .int .i64 (d4 : Int), .int .i64 (c4 : Int), .int .i64 (a4 : Int)] 39) := ⟨_, rfl⟩
  obtain ⟨U5, hU5⟩ : ∃ W, W = U4.alloc (.cells #[.int .i64 d1, .int .i64 c1, .int .i64 a1, .int .i64 (d3 : Int), .int .i64 (c3 : Int), .int .i64 (a3 : Int)] 39) := ⟨_, rfl⟩
  obtain ⟨U6, hU6⟩ : ∃ W, W = U5.alloc (.cells #[.int .i64 (d4 : Int), .int .i64 (c4 : Int), .int .i64 (a4 : Int), .int .i64 d2, .int .i64 c2, .int .i64 a2] 39) := ⟨_, rfl⟩
  obtain ⟨U7, hU7⟩ : ∃ W, W = U6.alloc (.cells #[.slice (some ⟨gc, 0, none⟩) 2 2, .slice (some ⟨gc + 1, 0, none⟩) 2 2, .slice (some ⟨gc + 1 + 1, 0, none⟩) 2 2, .slice (some ⟨gc + 1 + 1 + 1, 0, none⟩) 2 2] 45) := ⟨_, rfl⟩
  have sU3 : U3.heap.size = gc + 1 := by rw [hU3, World.size_alloc, hgc]
  have bU3 : Below U2.heap.size U2 U3 := by rw [hU3]; exact below_new _ _
  have xU3 : U3.heap[gc]? = some (.cells #[.int .i64 d1, .int .i64 c1, .int .i64 a1, .int .i64 d2, .int .i64 c2, .int .i64 a2] 39 (0, 0)) := by rw [hU3, hgc]; exact heap_alloc_new _ _
  have sU4 : U4.heap.size = gc + 1 + 1 := by rw [hU4, World.size_alloc, sU3]
  have bU4 : Below U3.heap.size U3 U4 := by rw [hU4]; exact below_new _ _
  have xU4 : U4.heap[gc + 1]? = some (.cells #[.int .i64 (d3 : Int), .int .i64 (c3 : Int), .int .i64 (a3 : Int), .int .i64 (d4 : Int), .int .i64 (c4 : Int), .int .i64 (a4 : Int)] 39 (0, 0)) := by rw [hU4, ← sU3]; exact heap_alloc_new _ _
  have sU5 : U5.heap.size = gc + 1 + 1 + 1 := by rw [hU5, World.size_alloc, sU4]
  have bU5 : Below U4.heap.size U4 U5 := by rw [hU5]; exact below_new _ _
  have xU5 : U5.heap[gc + 1 + 1]? = some (.cells #[.int .i64 d1, .int .i64 c1, .int .i64 a1, .int .i64 (d3 : Int), .int .i64 (c3 : Int), .int .i64 (a3 : Int)] 39 (0, 0)) := by rw [hU5, ← sU4]; exact heap_alloc_new _ _
  have sU6 : U6.heap.size = gc + 1 + 1 + 1 + 1 := by rw [hU6, World.size_alloc, sU5]
  have bU6 : Below U5.heap.size U5 U6 := by rw [hU6]; exact below_new _ _
  have xU6 : U6.heap[gc + 1 + 1 + 1]? = some (.cells #[.int .i64 (d4 : Int), .int .i64 (c4 : Int), .int .i64 (a4 : Int), .int .i64 d2, .int .i64 c2, .int .i64 a2] 39 (0, 0)) := by rw [hU6, ← sU5]; exact heap_alloc_new _ _
  have sU7 : U7.heap.size = gc + 1 + 1 + 1 + 1 + 1 := by rw [hU7, World.size_alloc, sU6]
  have bU7 : Below U6.heap.size U6 U7 := by rw [hU7]; exact below_new _ _
  have xU7 : U7.heap[gc + 1 + 1 + 1 + 1]? = some (.cells #[.slice (some ⟨gc, 0, none⟩) 2 2, .slice (some ⟨gc + 1, 0, none⟩) 2 2, .slice (some ⟨gc + 1 + 1, 0, none⟩) 2 2, .slice (some ⟨gc + 1 + 1 + 1, 0, none⟩) 2 2] 45 (0, 0)) := by rw [hU7, ← sU6]; exact heap_alloc_new _ _
  have XR1 := Lib.hid (carry (carry (carry (carry xU3 bU4) bU5) bU6) bU7)
  have XR2 := Lib.hid (carry (carry (carry xU4 bU5) bU6) bU7)
  have XR3 := Lib.hid (carry (carry xU5 bU6) bU7)
  have XR4 := Lib.hid (carry xU6 bU7)
  have XO := Lib.hid xU7
  have BCgc := Lib.hid ((((bU3.trans (bU4.mono bU3.size)).trans (bU5.mono (bU3.trans (bU4.mono bU3.size)).size)).trans (bU6.mono ((bU3.trans (bU4.mono bU3.size)).trans (bU5.mono (bU3.trans (bU4.mono bU3.size)).size)).size)).trans (bU7.mono (((bU3.trans (bU4.mono bU3.size)).trans (bU5.mono (bU3.trans (bU4.mono bU3.size)).size)).trans (bU6.mono ((bU3.trans (bU4.mono bU3.size)).trans (bU5.mono (bU3.trans (bU4.mono bU3.size)).size)).size)).size))
  have SCgc := Lib.hid sU7
  have HCgc := Lib.hid hgc
  clear sU3 bU3 xU3 sU4 bU4 xU4 sU5 bU5 xU5 sU6 bU6 xU6 sU7 bU7 xU7
  go_wp2_with fail
  rw [← hgc]
  rw [← hU3, ← hU4, ← hU5, ← hU6, ← hU7]
  clear hU3 hU4 hU5 hU6 hU7 hgc
  clear lt00 ne00 lt01 ne01 lt02 ne02 lt03 ne03 lt10 ne10 lt11 ne11 lt12 ne12 lt13 ne13 lt20 ne20 lt21 ne21 lt22 ne22 lt23 ne23 lt30 ne30 lt31 ne31 lt32 ne32 lt33 ne33
  clear e10 e11 e12 e20 e21 e22 e30 e31 e32 e40 e41 e42
  have HP := Lib.hid (carry P0.out BCgc.out)
  have S1 : SixP U7 gc := ⟨_, _, _, _, _, _, XR1.out, hq1, hq2⟩
  have S2 : SixP U7 (gc + 1) := ⟨_, _, _, _, _, _, XR2.out, HQ3.out, HQ4.out⟩
  have S3 : SixP U7 (gc + 1 + 1) := ⟨_, _, _, _, _, _, XR3.out, hq1, HQ3.out⟩
  have S4 : SixP U7 (gc + 1 + 1 + 1) := ⟨_, _, _, _, _, _, XR4.out, HQ4.out, hq2⟩
  have HRW : Hid (∀ i, i < 4 → ∃ g, U7.cell? ⟨gc + 1 + 1 + 1 + 1, i, none⟩ = some (.slice (some ⟨g, 0, none⟩) 2 2) ∧ SixP U7 g) := fun i hi => rowF XO.out S1 S2 S3 S4 hi
  have h2 := B4.out.trans (HB5.out.mono B4.out.size)
  have h3 := h2.trans (BCgb.out.mono h2.size)
  have h4 := h3.trans (BCgc.out.mono h3.size)
  have HU := Lib.hid h4
  obtain ⟨PV, hPV⟩ : ∃ q, q = rq s (val us) (dn (val vs)) := ⟨_, rfl⟩
  have HX2 : Hid (RQ w s ao n1 ca bo m1 cb PV 2) := by rw [hPV]; exact HX.out
  clear S1 S2 S3 S4 h2 h3 h4 hPV HX XR1 XR2 XR3 XR4 XO X3 X4 P0 P1 P2 Y0 Y1 Y2 HS HBV HQ HT1 HR1 HT4 HR4 HG4 HG5 HTB B1 HB5 BCgb SCgb HCgb BCgc SCgc HCgc B4 hq1 hq2 HQ3 HQ4 HR HNT HG0
  go_loopw [49] (fun s49 wr => ∃ i : Nat, i ≤ 4 ∧ s49 = .int .i64 (i : Int) ∧ Hid (Below U7.heap.size U7 wr)) (fun s49 _ => 4 - (intOf s49).toNat)
  case atStart => exact ⟨0, by omega, rfl, Below.refl _ _⟩
  case round =>
    obtain ⟨i, hi, rfl, hwr⟩ := hrel
    have BW := Lib.hid (HU.out.trans (hwr.out.mono HU.out.size))
    by_cases hlt : i < 4
    · have hlt2 : (i : Int) < 4 := by omega
      obtain ⟨g, hc, x1, y1, z1, x2, y2, z2, hg, hq1', hq2'⟩ := HRW.out i hlt
      have c0 := cellQ hc hwr.out
      obtain ⟨E1, hE1⟩ : ∃ E, E = facE x1 y1 z1 x2 y2 z2 := ⟨_, rfl⟩
      obtain ⟨Q1, hQ1⟩ : ∃ E, E = facQ x1 y1 z1 x2 y2 z2 := ⟨_, rfl⟩
      obtain ⟨E2, hE2⟩ : ∃ E, E = qwhy x1 y1 z1 := ⟨_, rfl⟩
      obtain ⟨Q2, hQ2⟩ : ∃ E, E = PV * uniQ x1 y1 z1 := ⟨_, rfl⟩
      obtain ⟨Q3, hQ3⟩ : ∃ E, E = PV * facQ x1 y1 z1 x2 y2 z2 := ⟨_, rfl⟩
      have HPV : Hid (∀ w', Below wr.heap.size wr w' → RQ w' s ao n1 ca bo m1 cb PV 2) := fun w' hb => HX2.out.below (BW.out.trans (hb.mono BW.out.size))
      have FC : Hid (∀ w', Below wr.heap.size wr w' → Calls Tryz.prog 32 #[.agg #[.int .i64 x1, .int .i64 y1, .int .i64 z1], .agg #[.int .i64 x2, .int .i64 y2, .int .i64 z2]] w' (QRes E1 (Q1) 2 w')) := fun w' hb => by
        rw [hE1, hQ1]; exact Factor_v x1 y1 z1 x2 y2 z2 hq1' hq2' w'
      have FR : Hid (∀ w', Below wr.heap.size wr w' → Calls Tryz.prog 33 #[.agg #[.int .i64 x1, .int .i64 y1, .int .i64 z1], .agg #[.int .i64 x2, .int .i64 y2, .int .i64 z2]] w' (QRes E1 (Q1) 2 w')) := fun w' hb => by
        rw [hE1, hQ1]; exact rFactor_v x1 y1 z1 x2 y2 z2 hq1' hq2' w'
      have UC : Hid (∀ w', Below wr.heap.size wr w' → Calls Tryz.prog 34 #[.agg #[.bool s, .slice ao n1 ca, .slice bo m1 cb], .agg #[.int .i64 x1, .int .i64 y1, .int .i64 z1]] w' (QRes E2 (Q2) 5 w')) := fun w' hb => by
        rw [hE2, hQ2]; exact UnitPrice_v s ao bo n1 ca m1 cb 2 PV x1 y1 z1 hq1' w' (HPV.out w' hb) (by omega) (by omega)
      have UR : Hid (∀ w', Below wr.heap.size wr w' → Calls Tryz.prog 35 #[.agg #[.bool s, .slice ao n1 ca, .slice bo m1 cb], .agg #[.int .i64 x1, .int .i64 y1, .int .i64 z1]] w' (QRes E2 (Q2) 5 w')) := fun w' hb => by
        rw [hE2, hQ2]; exact rUnitPrice_v s ao bo n1 ca m1 cb 2 PV x1 y1 z1 hq1' w' (HPV.out w' hb) (by omega) (by omega)
      have SC : Hid (∀ w', Below wr.heap.size wr w' → Calls Tryz.prog 36 #[.agg #[.bool s, .slice ao n1 ca, .slice bo m1 cb], .agg #[.int .i64 x1, .int .i64 y1, .int .i64 z1], .agg #[.int .i64 x2, .int .i64 y2, .int .i64 z2]] w' (QRes E1 (Q3) 5 w')) := fun w' hb => by
        rw [hE1, hQ3]; exact Scale_v s ao bo n1 ca m1 cb 2 PV x1 y1 z1 x2 y2 z2 hq1' hq2' w' (HPV.out w' hb) (by omega) (by omega)
      have SR : Hid (∀ w', Below wr.heap.size wr w' → Calls Tryz.prog 37 #[.agg #[.bool s, .slice ao n1 ca, .slice bo m1 cb], .agg #[.int .i64 x1, .int .i64 y1, .int .i64 z1], .agg #[.int .i64 x2, .int .i64 y2, .int .i64 z2]] w' (QRes E1 (Q3) 5 w')) := fun w' hb => by
        rw [hE1, hQ3]; exact rScale_v s ao bo n1 ca m1 cb 2 PV x1 y1 z1 x2 y2 z2 hq1' hq2' w' (HPV.out w' hb) (by omega) (by omega)
      have KC : Hid (∀ w', Below wr.heap.size wr w' → w'.cell? ⟨g0, 0, none⟩ = some (.bool s) ∧ w'.cell? ⟨g0, 1, none⟩ = some (.slice ao n1 ca) ∧ w'.cell? ⟨g0, 2, none⟩ = some (.slice bo m1 cb) ∧ w'.cell? ⟨g, 0, none⟩ = some (.int .i64 x1) ∧ w'.cell? ⟨g, 1, none⟩ = some (.int .i64 y1) ∧ w'.cell? ⟨g, 2, none⟩ = some (.int .i64 z1) ∧ w'.cell? ⟨g, 3, none⟩ = some (.int .i64 x2) ∧ w'.cell? ⟨g, 4, none⟩ = some (.int .i64 y2) ∧ w'.cell? ⟨g, 5, none⟩ = some (.int .i64 z2)) := fun w' hb => by
        have b := hwr.out.trans (hb.mono hwr.out.size)
        obtain ⟨p0, p1, p2, _⟩ := at_blockQ (carry HP.out b)
        obtain ⟨l0, l1, l2, l3, l4, l5⟩ := at_six (carry hg b)
        exact ⟨p0, p1, p2, l0, l1, l2, l3, l4, l5⟩
      have HB6' : Hid (Below wr.heap.size wr wr) := Below.refl _ _
      clear hc hg hq1' hq2' hE1 hE2 hQ1 hQ2 hQ3
      go_upto_region 7 with fail
      go_cut [14, 15] from 53 to 63 (fun vb ve wx => ve = .int .i64 E1 ∧ NumCut wr (Q1) 2 vb wx)
      case first =>
        refine wp_region_any (by kernel_rfl) ?_
        refine region_ssa [54, 55, 56, 57, 58, 59, 60, 53, 61, 62, 14, 15] (Below wr.heap.size wr) (ExtT 25 wr.heap.size) (TwoF 25 wr.heap.size [.val (.slice (some ⟨g, 0, none⟩) 2 2), .val (.pointer (some ⟨g, 0, none⟩)), .val (.agg #[.int .i64 x1, .int .i64 y1, .int .i64 z1]), .val (.slice (some ⟨g, 0, none⟩) 2 2), .val (.pointer (some ⟨g, 3, none⟩)), .val (.agg #[.int .i64 x2, .int .i64 y2, .int .i64 z2]), .numE E1 (Q1) 2, .numE E1 (Q1) 2, .num (Q1) 2, .val (.int .i64 E1), .box, .any, .val (.int .i64 E1)]) (OneX 25 11 14 61) (fun f => rfl) (by kernel_rfl) (by kernel_rfl) ?_ ?_ ?_ ?_ (AllFrom.below (n := 13) ?_) ?_
        · exact (Below.refl _ _).drew
        · intro f h; cases h
        · intro i v w1 w2 _ h hE; exact TwoF.ext (by decide) i v w1 w2 h hE
        · intro w1 w2 hB hE; exact hB.trans hE.1
        · refine AllFrom.step (m := 12) (j := 1) rfl ?_ ?_
          · intro D f w1 hD hB hR hp hcl hX
            refine wpOp_step rfl (fun K hK => ?_)
            simp only [putAll, Act.put, List.setIfInBounds_toArray, List.set_cons_succ, List.set_cons_zero]
            go_simp
            exact hK _ _ ⟨(.slice (some ⟨g, 0, none⟩) 2 2), (by show _ = Act.put _ (some 54) _; simp only [putAll, Act.put, List.setIfInBounds_toArray, List.set_cons_succ, List.set_cons_zero, *]), rfl, ExtT.refl _ _ _, fun h => absurd h (no_of (D := D) (hcl 11) (by kernel_rfl) hD)⟩
          refine AllFrom.step (m := 11) (j := 2) rfl ?_ ?_
          · intro D f w1 hD hB hR hp hcl hX
            have e0 : f 54 = (.slice (some ⟨g, 0, none⟩) 2 2) := (hp_at hp 0 (by kernel_rfl)).2
            refine wpOp_step rfl (fun K hK => ?_)
            simp only [putAll, Act.put, List.setIfInBounds_toArray, List.set_cons_succ, List.set_cons_zero]
            go_simp
            exact hK _ _ ⟨(.pointer (some ⟨g, 0, none⟩)), (by show _ = Act.put _ (some 55) _; simp only [putAll, Act.put, List.setIfInBounds_toArray, List.set_cons_succ, List.set_cons_zero, *]), rfl, ExtT.refl _ _ _, fun h => absurd h (no_of (D := D) (hcl 11) (by kernel_rfl) hD)⟩
          refine AllFrom.step (m := 10) (j := 3) rfl ?_ ?_
          · intro D f w1 hD hB hR hp hcl hX
            have e1 : f 55 = (.pointer (some ⟨g, 0, none⟩)) := (hp_at hp 1 (by kernel_rfl)).2
            obtain ⟨p0, p1, p2, l0, l1, l2, l3, l4, l5⟩ := KC.out w1 (HB6'.out.trans (hB.mono HB6'.out.size))
            refine wpOp_step rfl (fun K hK => ?_)
            simp only [putAll, Act.put, List.setIfInBounds_toArray, List.set_cons_succ, List.set_cons_zero]
            go_simp
            exact hK _ _ ⟨(.agg #[.int .i64 x1, .int .i64 y1, .int .i64 z1]), (by show _ = Act.put _ (some 56) _; simp only [putAll, Act.put, List.setIfInBounds_toArray, List.set_cons_succ, List.set_cons_zero, *]), rfl, ExtT.refl _ _ _, fun h => absurd h (no_of (D := D) (hcl 11) (by kernel_rfl) hD)⟩
          refine AllFrom.step (m := 9) (j := 4) rfl ?_ ?_
          · intro D f w1 hD hB hR hp hcl hX
            refine wpOp_step rfl (fun K hK => ?_)
            simp only [putAll, Act.put, List.setIfInBounds_toArray, List.set_cons_succ, List.set_cons_zero]
            go_simp
            exact hK _ _ ⟨(.slice (some ⟨g, 0, none⟩) 2 2), (by show _ = Act.put _ (some 57) _; simp only [putAll, Act.put, List.setIfInBounds_toArray, List.set_cons_succ, List.set_cons_zero, *]), rfl, ExtT.refl _ _ _, fun h => absurd h (no_of (D := D) (hcl 11) (by kernel_rfl) hD)⟩
          refine AllFrom.step (m := 8) (j := 5) rfl ?_ ?_
          · intro D f w1 hD hB hR hp hcl hX
            have e3 : f 57 = (.slice (some ⟨g, 0, none⟩) 2 2) := (hp_at hp 3 (by kernel_rfl)).2
            refine wpOp_step rfl (fun K hK => ?_)
            simp only [putAll, Act.put, List.setIfInBounds_toArray, List.set_cons_succ, List.set_cons_zero]
            go_simp
            exact hK _ _ ⟨(.pointer (some ⟨g, 3, none⟩)), (by show _ = Act.put _ (some 58) _; simp only [putAll, Act.put, List.setIfInBounds_toArray, List.set_cons_succ, List.set_cons_zero, *]), rfl, ExtT.refl _ _ _, fun h => absurd h (no_of (D := D) (hcl 11) (by kernel_rfl) hD)⟩
          refine AllFrom.step (m := 7) (j := 6) rfl ?_ ?_
          · intro D f w1 hD hB hR hp hcl hX
            have e4 : f 58 = (.pointer (some ⟨g, 3, none⟩)) := (hp_at hp 4 (by kernel_rfl)).2
            obtain ⟨p0, p1, p2, l0, l1, l2, l3, l4, l5⟩ := KC.out w1 (HB6'.out.trans (hB.mono HB6'.out.size))
            refine wpOp_step rfl (fun K hK => ?_)
            simp only [putAll, Act.put, List.setIfInBounds_toArray, List.set_cons_succ, List.set_cons_zero]
            go_simp
            exact hK _ _ ⟨(.agg #[.int .i64 x2, .int .i64 y2, .int .i64 z2]), (by show _ = Act.put _ (some 59) _; simp only [putAll, Act.put, List.setIfInBounds_toArray, List.set_cons_succ, List.set_cons_zero, *]), rfl, ExtT.refl _ _ _, fun h => absurd h (no_of (D := D) (hcl 11) (by kernel_rfl) hD)⟩
          refine AllFrom.step (m := 6) (j := 7) rfl ?_ ?_
          · intro D f w1 hD hB hR hp hcl hX
            have e2 : f 56 = (.agg #[.int .i64 x1, .int .i64 y1, .int .i64 z1]) := (hp_at hp 2 (by kernel_rfl)).2
            have e5 : f 59 = (.agg #[.int .i64 x2, .int .i64 y2, .int .i64 z2]) := (hp_at hp 5 (by kernel_rfl)).2
            refine wpOp_step rfl (fun K hK => ?_)
            simp only [putAll, Act.put, List.setIfInBounds_toArray, List.set_cons_succ, List.set_cons_zero]
            go_simp
            refine (FC.out _ (HB6'.out.trans (hB.mono HB6'.out.size))).mono ?_
            rintro e w2 ⟨s9, a9, n9, c9, o9, m9, d9, rfl, cq, hb⟩
            go_simp
            exact hK _ _ ⟨.tuple #[.agg #[.bool s9, .slice a9 n9 c9, .slice o9 m9 d9], .int .i64 E1], (by show _ = Act.put _ (some 60) _; simp only [putAll, Act.put, List.setIfInBounds_toArray, List.set_cons_succ, List.set_cons_zero, *]), ⟨_, _, _, _, _, _, _, rfl, cq.mono (Nat.zero_le _)⟩, ExtT.of_below hb hB.size, fun h => absurd h (no_of (D := D) (hcl 11) (by kernel_rfl) hD)⟩
          refine AllFrom.step (m := 5) (j := 8) rfl ?_ ?_
          · intro D f w1 hD hB hR hp hcl hX
            obtain ⟨s6, a6, n6, c6, o6, m6, d6, e6, q6⟩ := (hp_at hp 6 (by kernel_rfl)).2
            replace e6 : f 60 = _ := e6
            refine wpOp_step rfl (fun K hK => ?_)
            simp only [putAll, Act.put, List.setIfInBounds_toArray, List.set_cons_succ, List.set_cons_zero]
            go_simp
            exact hK _ _ ⟨.tuple #[.agg #[.bool s6, .slice a6 n6 c6, .slice o6 m6 d6], .int .i64 E1], (by show _ = Act.put _ (some 53) _; simp only [putAll, Act.put, List.setIfInBounds_toArray, List.set_cons_succ, List.set_cons_zero, *]), ⟨_, _, _, _, _, _, _, rfl, q6⟩, ExtT.refl _ _ _, fun h => absurd h (no_of (D := D) (hcl 11) (by kernel_rfl) hD)⟩
          refine AllFrom.step (m := 4) (j := 9) rfl ?_ ?_
          · intro D f w1 hD hB hR hp hcl hX
            obtain ⟨s7, a7, n7, c7, o7, m7, d7, e7, q7⟩ := (hp_at hp 7 (by kernel_rfl)).2
            replace e7 : f 53 = _ := e7
            refine wpOp_step rfl (fun K hK => ?_)
            simp only [putAll, Act.put, List.setIfInBounds_toArray, List.set_cons_succ, List.set_cons_zero]
            go_simp
            exact hK _ _ ⟨.agg #[.bool s7, .slice a7 n7 c7, .slice o7 m7 d7], (by show _ = Act.put _ (some 61) _; simp only [putAll, Act.put, List.setIfInBounds_toArray, List.set_cons_succ, List.set_cons_zero, *]), ⟨_, _, _, _, _, _, _, rfl, q7⟩, ExtT.refl _ _ _, fun h => absurd h (no_of (D := D) (hcl 11) (by kernel_rfl) hD)⟩
          refine AllFrom.step (m := 3) (j := 10) rfl ?_ ?_
          · intro D f w1 hD hB hR hp hcl hX
            obtain ⟨s7, a7, n7, c7, o7, m7, d7, e7, q7⟩ := (hp_at hp 7 (by kernel_rfl)).2
            replace e7 : f 53 = _ := e7
            refine wpOp_step rfl (fun K hK => ?_)
            simp only [putAll, Act.put, List.setIfInBounds_toArray, List.set_cons_succ, List.set_cons_zero]
            go_simp
            exact hK _ _ ⟨(.int .i64 E1), (by show _ = Act.put _ (some 62) _; simp only [putAll, Act.put, List.setIfInBounds_toArray, List.set_cons_succ, List.set_cons_zero, *]), rfl, ExtT.refl _ _ _, hX⟩
          refine AllFrom.step (m := 2) (j := 11) rfl ?_ ?_
          · intro D f w1 hD hB hR hp hcl hX
            refine wpOp_step rfl (fun K hK => ?_)
            simp only [putAll, Act.put, List.setIfInBounds_toArray, List.set_cons_succ, List.set_cons_zero]
            go_simp
            exact hK _ _ ⟨.pointer (some ⟨w1.heap.size, 0, none⟩), (by show _ = Act.put _ (some 14) _; simp only [putAll, Act.put, List.setIfInBounds_toArray, List.set_cons_succ, List.set_cons_zero, *]), ⟨w1.heap.size, rfl, hB.size, newBT _ _ _ _ _⟩, ExtT.of_below (below_new _ _) hB.size, fun h => absurd h (no_of (D := D) (hcl 11) (by kernel_rfl) hD)⟩
          refine AllFrom.step (m := 1) (j := 12) rfl ?_ ?_
          · intro D f w1 hD hB hR hp hcl hX
            obtain ⟨g, eg, hg, hb⟩ := (hp_at hp 10 (by kernel_rfl)).2
            obtain ⟨s5, a5, n5, c5, o5, m5, d5, ev, hcq⟩ := (hp_at hp 8 (by kernel_rfl)).2
            replace ev : f 61 = _ := ev
            replace eg : f 14 = _ := eg
            obtain ⟨u0, u1, u2, q0, q1, q2, z0, z1, z2⟩ := hb.facts
            refine wpOp_step rfl (fun K hK => ?_)
            simp only [putAll, Act.put, List.setIfInBounds_toArray, List.set_cons_succ, List.set_cons_zero]
            go_simp
            exact hK _ _ ⟨undef, (by show _ = Act.put _ (none) _; simp only [putAll, Act.put, List.setIfInBounds_toArray, List.set_cons_succ, List.set_cons_zero, *]), trivial, ExtT.set3 hb hg _ _ _, fun _ => by show HoldsT _ _ (f 14) (f 61); rw [eg, ev]; exact HoldsT.new hb _ _ _⟩
          refine AllFrom.step (m := 0) (j := 13) rfl ?_ ?_
          · intro D f w1 hD hB hR hp hcl hX
            have e9 : f 62 = (.int .i64 E1) := (hp_at hp 9 (by kernel_rfl)).2
            refine wpOp_step rfl (fun K hK => ?_)
            simp only [putAll, Act.put, List.setIfInBounds_toArray, List.set_cons_succ, List.set_cons_zero]
            go_simp
            exact hK _ _ ⟨(.int .i64 E1), (by show _ = Act.put _ (some 15) _; simp only [putAll, Act.put, List.setIfInBounds_toArray, List.set_cons_succ, List.set_cons_zero, *]), rfl, ExtT.refl _ _ _, hX⟩
          exact AllFrom.nil
        · intro D f w1 hall hB hR hX
          simp only [putAll, Act.put, List.setIfInBounds_toArray, List.set_cons_succ, List.set_cons_zero]
          go_wp2_with fail
          go_meet
          exact ⟨hR 12 (by decide), num_cut hB (hX (hall 11 (by decide))) (hR 8 (by decide))⟩
      rename World => X7
      obtain ⟨rfl, g7, s7, e7, n7', k7, o7, m7', t7, rfl, x7, cq7, b7⟩ := hcut
      have HB7' := Lib.hid (HB6'.out.trans (b7.mono HB6'.out.size))
      have XX7 := Lib.hid x7
      have CC7 := Lib.hid cq7
      clear x7 cq7 b7
      go_upto_region 8 with fail
      go_cut [16, 17] from 63 to 73 (fun vb ve wx => ve = .int .i64 E1 ∧ NumCut X7 (Q1) 2 vb wx)
      case first =>
        refine wp_region_any (by kernel_rfl) ?_
        refine region_ssa [64, 65, 66, 67, 68, 69, 70, 63, 71, 72, 16, 17] (Below X7.heap.size X7) (ExtT 25 X7.heap.size) (TwoF 25 X7.heap.size [.val (.slice (some ⟨g, 0, none⟩) 2 2), .val (.pointer (some ⟨g, 0, none⟩)), .val (.agg #[.int .i64 x1, .int .i64 y1, .int .i64 z1]), .val (.slice (some ⟨g, 0, none⟩) 2 2), .val (.pointer (some ⟨g, 3, none⟩)), .val (.agg #[.int .i64 x2, .int .i64 y2, .int .i64 z2]), .numE E1 (Q1) 2, .numE E1 (Q1) 2, .num (Q1) 2, .val (.int .i64 E1), .box, .any, .val (.int .i64 E1)]) (OneX 25 11 16 71) (fun f => rfl) (by kernel_rfl) (by kernel_rfl) ?_ ?_ ?_ ?_ (AllFrom.below (n := 13) ?_) ?_
        · exact (Below.refl _ _).drew
        · intro f h; cases h
        · intro i v w1 w2 _ h hE; exact TwoF.ext (by decide) i v w1 w2 h hE
        · intro w1 w2 hB hE; exact hB.trans hE.1
        · refine AllFrom.step (m := 12) (j := 1) rfl ?_ ?_
          · intro D f w1 hD hB hR hp hcl hX
            refine wpOp_step rfl (fun K hK => ?_)
            simp only [putAll, Act.put, List.setIfInBounds_toArray, List.set_cons_succ, List.set_cons_zero]
            go_simp
            exact hK _ _ ⟨(.slice (some ⟨g, 0, none⟩) 2 2), (by show _ = Act.put _ (some 64) _; simp only [putAll, Act.put, List.setIfInBounds_toArray, List.set_cons_succ, List.set_cons_zero, *]), rfl, ExtT.refl _ _ _, fun h => absurd h (no_of (D := D) (hcl 11) (by kernel_rfl) hD)⟩
          refine AllFrom.step (m := 11) (j := 2) rfl ?_ ?_
          · intro D f w1 hD hB hR hp hcl hX
            have e0 : f 64 = (.slice (some ⟨g, 0, none⟩) 2 2) := (hp_at hp 0 (by kernel_rfl)).2
            refine wpOp_step rfl (fun K hK => ?_)
            simp only [putAll, Act.put, List.setIfInBounds_toArray, List.set_cons_succ, List.set_cons_zero]
            go_simp
            exact hK _ _ ⟨(.pointer (some ⟨g, 0, none⟩)), (by show _ = Act.put _ (some 65) _; simp only [putAll, Act.put, List.setIfInBounds_toArray, List.set_cons_succ, List.set_cons_zero, *]), rfl, ExtT.refl _ _ _, fun h => absurd h (no_of (D := D) (hcl 11) (by kernel_rfl) hD)⟩
          refine AllFrom.step (m := 10) (j := 3) rfl ?_ ?_
          · intro D f w1 hD hB hR hp hcl hX
            have e1 : f 65 = (.pointer (some ⟨g, 0, none⟩)) := (hp_at hp 1 (by kernel_rfl)).2
            obtain ⟨p0, p1, p2, l0, l1, l2, l3, l4, l5⟩ := KC.out w1 (HB7'.out.trans (hB.mono HB7'.out.size))
            refine wpOp_step rfl (fun K hK => ?_)
            simp only [putAll, Act.put, List.setIfInBounds_toArray, List.set_cons_succ, List.set_cons_zero]
            go_simp
            exact hK _ _ ⟨(.agg #[.int .i64 x1, .int .i64 y1, .int .i64 z1]), (by show _ = Act.put _ (some 66) _; simp only [putAll, Act.put, List.setIfInBounds_toArray, List.set_cons_succ, List.set_cons_zero, *]), rfl, ExtT.refl _ _ _, fun h => absurd h (no_of (D := D) (hcl 11) (by kernel_rfl) hD)⟩
          refine AllFrom.step (m := 9) (j := 4) rfl ?_ ?_
          · intro D f w1 hD hB hR hp hcl hX
            refine wpOp_step rfl (fun K hK => ?_)
            simp only [putAll, Act.put, List.setIfInBounds_toArray, List.set_cons_succ, List.set_cons_zero]
            go_simp
            exact hK _ _ ⟨(.slice (some ⟨g, 0, none⟩) 2 2), (by show _ = Act.put _ (some 67) _; simp only [putAll, Act.put, List.setIfInBounds_toArray, List.set_cons_succ, List.set_cons_zero, *]), rfl, ExtT.refl _ _ _, fun h => absurd h (no_of (D := D) (hcl 11) (by kernel_rfl) hD)⟩
          refine AllFrom.step (m := 8) (j := 5) rfl ?_ ?_
          · intro D f w1 hD hB hR hp hcl hX
            have e3 : f 67 = (.slice (some ⟨g, 0, none⟩) 2 2) := (hp_at hp 3 (by kernel_rfl)).2
            refine wpOp_step rfl (fun K hK => ?_)
            simp only [putAll, Act.put, List.setIfInBounds_toArray, List.set_cons_succ, List.set_cons_zero]
            go_simp
            exact hK _ _ ⟨(.pointer (some ⟨g, 3, none⟩)), (by show _ = Act.put _ (some 68) _; simp only [putAll, Act.put, List.setIfInBounds_toArray, List.set_cons_succ, List.set_cons_zero, *]), rfl, ExtT.refl _ _ _, fun h => absurd h (no_of (D := D) (hcl 11) (by kernel_rfl) hD)⟩
          refine AllFrom.step (m := 7) (j := 6) rfl ?_ ?_
          · intro D f w1 hD hB hR hp hcl hX
            have e4 : f 68 = (.pointer (some ⟨g, 3, none⟩)) := (hp_at hp 4 (by kernel_rfl)).2
            obtain ⟨p0, p1, p2, l0, l1, l2, l3, l4, l5⟩ := KC.out w1 (HB7'.out.trans (hB.mono HB7'.out.size))
            refine wpOp_step rfl (fun K hK => ?_)
            simp only [putAll, Act.put, List.setIfInBounds_toArray, List.set_cons_succ, List.set_cons_zero]
            go_simp
            exact hK _ _ ⟨(.agg #[.int .i64 x2, .int .i64 y2, .int .i64 z2]), (by show _ = Act.put _ (some 69) _; simp only [putAll, Act.put, List.setIfInBounds_toArray, List.set_cons_succ, List.set_cons_zero, *]), rfl, ExtT.refl _ _ _, fun h => absurd h (no_of (D := D) (hcl 11) (by kernel_rfl) hD)⟩
          refine AllFrom.step (m := 6) (j := 7) rfl ?_ ?_
          · intro D f w1 hD hB hR hp hcl hX
            have e2 : f 66 = (.agg #[.int .i64 x1, .int .i64 y1, .int .i64 z1]) := (hp_at hp 2 (by kernel_rfl)).2
            have e5 : f 69 = (.agg #[.int .i64 x2, .int .i64 y2, .int .i64 z2]) := (hp_at hp 5 (by kernel_rfl)).2
            refine wpOp_step rfl (fun K hK => ?_)
            simp only [putAll, Act.put, List.setIfInBounds_toArray, List.set_cons_succ, List.set_cons_zero]
            go_simp
            refine (FR.out _ (HB7'.out.trans (hB.mono HB7'.out.size))).mono ?_
            rintro e w2 ⟨s9, a9, n9, c9, o9, m9, d9, rfl, cq, hb⟩
            go_simp
            exact hK _ _ ⟨.tuple #[.agg #[.bool s9, .slice a9 n9 c9, .slice o9 m9 d9], .int .i64 E1], (by show _ = Act.put _ (some 70) _; simp only [putAll, Act.put, List.setIfInBounds_toArray, List.set_cons_succ, List.set_cons_zero, *]), ⟨_, _, _, _, _, _, _, rfl, cq.mono (Nat.zero_le _)⟩, ExtT.of_below hb hB.size, fun h => absurd h (no_of (D := D) (hcl 11) (by kernel_rfl) hD)⟩
          refine AllFrom.step (m := 5) (j := 8) rfl ?_ ?_
          · intro D f w1 hD hB hR hp hcl hX
            obtain ⟨s6, a6, n6, c6, o6, m6, d6, e6, q6⟩ := (hp_at hp 6 (by kernel_rfl)).2
            replace e6 : f 70 = _ := e6
            refine wpOp_step rfl (fun K hK => ?_)
            simp only [putAll, Act.put, List.setIfInBounds_toArray, List.set_cons_succ, List.set_cons_zero]
            go_simp
            exact hK _ _ ⟨.tuple #[.agg #[.bool s6, .slice a6 n6 c6, .slice o6 m6 d6], .int .i64 E1], (by show _ = Act.put _ (some 63) _; simp only [putAll, Act.put, List.setIfInBounds_toArray, List.set_cons_succ, List.set_cons_zero, *]), ⟨_, _, _, _, _, _, _, rfl, q6⟩, ExtT.refl _ _ _, fun h => absurd h (no_of (D := D) (hcl 11) (by kernel_rfl) hD)⟩
          refine AllFrom.step (m := 4) (j := 9) rfl ?_ ?_
          · intro D f w1 hD hB hR hp hcl hX
            obtain ⟨s7, a7, n7, c7, o7, m7, d7, e7, q7⟩ := (hp_at hp 7 (by kernel_rfl)).2
            replace e7 : f 63 = _ := e7
            refine wpOp_step rfl (fun K hK => ?_)
            simp only [putAll, Act.put, List.setIfInBounds_toArray, List.set_cons_succ, List.set_cons_zero]
            go_simp
            exact hK _ _ ⟨.agg #[.bool s7, .slice a7 n7 c7, .slice o7 m7 d7], (by show _ = Act.put _ (some 71) _; simp only [putAll, Act.put, List.setIfInBounds_toArray, List.set_cons_succ, List.set_cons_zero, *]), ⟨_, _, _, _, _, _, _, rfl, q7⟩, ExtT.refl _ _ _, fun h => absurd h (no_of (D := D) (hcl 11) (by kernel_rfl) hD)⟩
          refine AllFrom.step (m := 3) (j := 10) rfl ?_ ?_
          · intro D f w1 hD hB hR hp hcl hX
            obtain ⟨s7, a7, n7, c7, o7, m7, d7, e7, q7⟩ := (hp_at hp 7 (by kernel_rfl)).2
            replace e7 : f 63 = _ := e7
            refine wpOp_step rfl (fun K hK => ?_)
            simp only [putAll, Act.put, List.setIfInBounds_toArray, List.set_cons_succ, List.set_cons_zero]
            go_simp
            exact hK _ _ ⟨(.int .i64 E1), (by show _ = Act.put _ (some 72) _; simp only [putAll, Act.put, List.setIfInBounds_toArray, List.set_cons_succ, List.set_cons_zero, *]), rfl, ExtT.refl _ _ _, hX⟩
          refine AllFrom.step (m := 2) (j := 11) rfl ?_ ?_
          · intro D f w1 hD hB hR hp hcl hX
            refine wpOp_step rfl (fun K hK => ?_)
            simp only [putAll, Act.put, List.setIfInBounds_toArray, List.set_cons_succ, List.set_cons_zero]
            go_simp
            exact hK _ _ ⟨.pointer (some ⟨w1.heap.size, 0, none⟩), (by show _ = Act.put _ (some 16) _; simp only [putAll, Act.put, List.setIfInBounds_toArray, List.set_cons_succ, List.set_cons_zero, *]), ⟨w1.heap.size, rfl, hB.size, newBT _ _ _ _ _⟩, ExtT.of_below (below_new _ _) hB.size, fun h => absurd h (no_of (D := D) (hcl 11) (by kernel_rfl) hD)⟩
          refine AllFrom.step (m := 1) (j := 12) rfl ?_ ?_
          · intro D f w1 hD hB hR hp hcl hX
            obtain ⟨g, eg, hg, hb⟩ := (hp_at hp 10 (by kernel_rfl)).2
            obtain ⟨s5, a5, n5, c5, o5, m5, d5, ev, hcq⟩ := (hp_at hp 8 (by kernel_rfl)).2
            replace ev : f 71 = _ := ev
            replace eg : f 16 = _ := eg
            obtain ⟨u0, u1, u2, q0, q1, q2, z0, z1, z2⟩ := hb.facts
            refine wpOp_step rfl (fun K hK => ?_)
            simp only [putAll, Act.put, List.setIfInBounds_toArray, List.set_cons_succ, List.set_cons_zero]
            go_simp
            exact hK _ _ ⟨undef, (by show _ = Act.put _ (none) _; simp only [putAll, Act.put, List.setIfInBounds_toArray, List.set_cons_succ, List.set_cons_zero, *]), trivial, ExtT.set3 hb hg _ _ _, fun _ => by show HoldsT _ _ (f 16) (f 71); rw [eg, ev]; exact HoldsT.new hb _ _ _⟩
          refine AllFrom.step (m := 0) (j := 13) rfl ?_ ?_
          · intro D f w1 hD hB hR hp hcl hX
            have e9 : f 72 = (.int .i64 E1) := (hp_at hp 9 (by kernel_rfl)).2
            refine wpOp_step rfl (fun K hK => ?_)
            simp only [putAll, Act.put, List.setIfInBounds_toArray, List.set_cons_succ, List.set_cons_zero]
            go_simp
            exact hK _ _ ⟨(.int .i64 E1), (by show _ = Act.put _ (some 17) _; simp only [putAll, Act.put, List.setIfInBounds_toArray, List.set_cons_succ, List.set_cons_zero, *]), rfl, ExtT.refl _ _ _, hX⟩
          exact AllFrom.nil
        · intro D f w1 hall hB hR hX
          simp only [putAll, Act.put, List.setIfInBounds_toArray, List.set_cons_succ, List.set_cons_zero]
          go_wp2_with fail
          go_meet
          exact ⟨hR 12 (by decide), num_cut hB (hX (hall 11 (by decide))) (hR 8 (by decide))⟩
      rename World => X8
      obtain ⟨rfl, g8, s8, e8, n8', k8, o8, m8', t8, rfl, x8, cq8, b8⟩ := hcut
      have HB8' := Lib.hid (HB7'.out.trans (b8.mono HB7'.out.size))
      have XX7 := Lib.hid (carry XX7.out b8)
      have CC7 := Lib.hid (CC7.out.below b8)
      have XX8 := Lib.hid x8
      have CC8 := Lib.hid cq8
      clear x8 cq8 b8
      go_upto_region 9 with fail
      go_cut [18, 19] from 73 to 81 (fun vb ve wx => ve = .int .i64 E2 ∧ NumCut X8 (Q2) 5 vb wx)
      case first =>
        refine wp_region_any (by kernel_rfl) ?_
        refine region_ssa [74, 75, 76, 77, 78, 73, 79, 80, 18, 19] (Below X8.heap.size X8) (ExtT 25 X8.heap.size) (TwoF 25 X8.heap.size [.val (.agg #[.bool s, .slice ao n1 ca, .slice bo m1 cb]), .val (.slice (some ⟨g, 0, none⟩) 2 2), .val (.pointer (some ⟨g, 0, none⟩)), .val (.agg #[.int .i64 x1, .int .i64 y1, .int .i64 z1]), .numE E2 (Q2) 5, .numE E2 (Q2) 5, .num (Q2) 5, .val (.int .i64 E2), .box, .any, .val (.int .i64 E2)]) (OneX 25 9 18 79) (fun f => rfl) (by kernel_rfl) (by kernel_rfl) ?_ ?_ ?_ ?_ (AllFrom.below (n := 11) ?_) ?_
        · exact (Below.refl _ _).drew
        · intro f h; cases h
        · intro i v w1 w2 _ h hE; exact TwoF.ext (by decide) i v w1 w2 h hE
        · intro w1 w2 hB hE; exact hB.trans hE.1
        · refine AllFrom.step (m := 10) (j := 1) rfl ?_ ?_
          · intro D f w1 hD hB hR hp hcl hX
            obtain ⟨p0, p1, p2, l0, l1, l2, l3, l4, l5⟩ := KC.out w1 (HB8'.out.trans (hB.mono HB8'.out.size))
            refine wpOp_step rfl (fun K hK => ?_)
            simp only [putAll, Act.put, List.setIfInBounds_toArray, List.set_cons_succ, List.set_cons_zero]
            go_simp
            exact hK _ _ ⟨(.agg #[.bool s, .slice ao n1 ca, .slice bo m1 cb]), (by show _ = Act.put _ (some 74) _; simp only [putAll, Act.put, List.setIfInBounds_toArray, List.set_cons_succ, List.set_cons_zero, *]), rfl, ExtT.refl _ _ _, fun h => absurd h (no_of (D := D) (hcl 9) (by kernel_rfl) hD)⟩
          refine AllFrom.step (m := 9) (j := 2) rfl ?_ ?_
          · intro D f w1 hD hB hR hp hcl hX
            refine wpOp_step rfl (fun K hK => ?_)
            simp only [putAll, Act.put, List.setIfInBounds_toArray, List.set_cons_succ, List.set_cons_zero]
            go_simp
            exact hK _ _ ⟨(.slice (some ⟨g, 0, none⟩) 2 2), (by show _ = Act.put _ (some 75) _; simp only [putAll, Act.put, List.setIfInBounds_toArray, List.set_cons_succ, List.set_cons_zero, *]), rfl, ExtT.refl _ _ _, fun h => absurd h (no_of (D := D) (hcl 9) (by kernel_rfl) hD)⟩
          refine AllFrom.step (m := 8) (j := 3) rfl ?_ ?_
          · intro D f w1 hD hB hR hp hcl hX
            have e1 : f 75 = (.slice (some ⟨g, 0, none⟩) 2 2) := (hp_at hp 1 (by kernel_rfl)).2
            refine wpOp_step rfl (fun K hK => ?_)
            simp only [putAll, Act.put, List.setIfInBounds_toArray, List.set_cons_succ, List.set_cons_zero]
            go_simp
            exact hK _ _ ⟨(.pointer (some ⟨g, 0, none⟩)), (by show _ = Act.put _ (some 76) _; simp only [putAll, Act.put, List.setIfInBounds_toArray, List.set_cons_succ, List.set_cons_zero, *]), rfl, ExtT.refl _ _ _, fun h => absurd h (no_of (D := D) (hcl 9) (by kernel_rfl) hD)⟩
          refine AllFrom.step (m := 7) (j := 4) rfl ?_ ?_
          · intro D f w1 hD hB hR hp hcl hX
            have e2 : f 76 = (.pointer (some ⟨g, 0, none⟩)) := (hp_at hp 2 (by kernel_rfl)).2
            obtain ⟨p0, p1, p2, l0, l1, l2, l3, l4, l5⟩ := KC.out w1 (HB8'.out.trans (hB.mono HB8'.out.size))
            refine wpOp_step rfl (fun K hK => ?_)
            simp only [putAll, Act.put, List.setIfInBounds_toArray, List.set_cons_succ, List.set_cons_zero]
            go_simp
            exact hK _ _ ⟨(.agg #[.int .i64 x1, .int .i64 y1, .int .i64 z1]), (by show _ = Act.put _ (some 77) _; simp only [putAll, Act.put, List.setIfInBounds_toArray, List.set_cons_succ, List.set_cons_zero, *]), rfl, ExtT.refl _ _ _, fun h => absurd h (no_of (D := D) (hcl 9) (by kernel_rfl) hD)⟩
          refine AllFrom.step (m := 6) (j := 5) rfl ?_ ?_
          · intro D f w1 hD hB hR hp hcl hX
            have e0 : f 74 = (.agg #[.bool s, .slice ao n1 ca, .slice bo m1 cb]) := (hp_at hp 0 (by kernel_rfl)).2
            have e3 : f 77 = (.agg #[.int .i64 x1, .int .i64 y1, .int .i64 z1]) := (hp_at hp 3 (by kernel_rfl)).2
            refine wpOp_step rfl (fun K hK => ?_)
            simp only [putAll, Act.put, List.setIfInBounds_toArray, List.set_cons_succ, List.set_cons_zero]
            go_simp
            refine (UC.out _ (HB8'.out.trans (hB.mono HB8'.out.size))).mono ?_
            rintro e w2 ⟨s9, a9, n9, c9, o9, m9, d9, rfl, cq, hb⟩
            go_simp
            exact hK _ _ ⟨.tuple #[.agg #[.bool s9, .slice a9 n9 c9, .slice o9 m9 d9], .int .i64 E2], (by show _ = Act.put _ (some 78) _; simp only [putAll, Act.put, List.setIfInBounds_toArray, List.set_cons_succ, List.set_cons_zero, *]), ⟨_, _, _, _, _, _, _, rfl, cq.mono (Nat.zero_le _)⟩, ExtT.of_below hb hB.size, fun h => absurd h (no_of (D := D) (hcl 9) (by kernel_rfl) hD)⟩
          refine AllFrom.step (m := 5) (j := 6) rfl ?_ ?_
          · intro D f w1 hD hB hR hp hcl hX
            obtain ⟨s4, a4, n4, c4, o4, m4, d4, e4, q4⟩ := (hp_at hp 4 (by kernel_rfl)).2
            replace e4 : f 78 = _ := e4
            refine wpOp_step rfl (fun K hK => ?_)
            simp only [putAll, Act.put, List.setIfInBounds_toArray, List.set_cons_succ, List.set_cons_zero]
            go_simp
            exact hK _ _ ⟨.tuple #[.agg #[.bool s4, .slice a4 n4 c4, .slice o4 m4 d4], .int .i64 E2], (by show _ = Act.put _ (some 73) _; simp only [putAll, Act.put, List.setIfInBounds_toArray, List.set_cons_succ, List.set_cons_zero, *]), ⟨_, _, _, _, _, _, _, rfl, q4⟩, ExtT.refl _ _ _, fun h => absurd h (no_of (D := D) (hcl 9) (by kernel_rfl) hD)⟩
          refine AllFrom.step (m := 4) (j := 7) rfl ?_ ?_
          · intro D f w1 hD hB hR hp hcl hX
            obtain ⟨s5, a5, n5, c5, o5, m5, d5, e5, q5⟩ := (hp_at hp 5 (by kernel_rfl)).2
            replace e5 : f 73 = _ := e5
            refine wpOp_step rfl (fun K hK => ?_)
            simp only [putAll, Act.put, List.setIfInBounds_toArray, List.set_cons_succ, List.set_cons_zero]
            go_simp
            exact hK _ _ ⟨.agg #[.bool s5, .slice a5 n5 c5, .slice o5 m5 d5], (by show _ = Act.put _ (some 79) _; simp only [putAll, Act.put, List.setIfInBounds_toArray, List.set_cons_succ, List.set_cons_zero, *]), ⟨_, _, _, _, _, _, _, rfl, q5⟩, ExtT.refl _ _ _, fun h => absurd h (no_of (D := D) (hcl 9) (by kernel_rfl) hD)⟩
          refine AllFrom.step (m := 3) (j := 8) rfl ?_ ?_
          · intro D f w1 hD hB hR hp hcl hX
            obtain ⟨s5, a5, n5, c5, o5, m5, d5, e5, q5⟩ := (hp_at hp 5 (by kernel_rfl)).2
            replace e5 : f 73 = _ := e5
            refine wpOp_step rfl (fun K hK => ?_)
            simp only [putAll, Act.put, List.setIfInBounds_toArray, List.set_cons_succ, List.set_cons_zero]
            go_simp
            exact hK _ _ ⟨(.int .i64 E2), (by show _ = Act.put _ (some 80) _; simp only [putAll, Act.put, List.setIfInBounds_toArray, List.set_cons_succ, List.set_cons_zero, *]), rfl, ExtT.refl _ _ _, hX⟩
          refine AllFrom.step (m := 2) (j := 9) rfl ?_ ?_
          · intro D f w1 hD hB hR hp hcl hX
            refine wpOp_step rfl (fun K hK => ?_)
            simp only [putAll, Act.put, List.setIfInBounds_toArray, List.set_cons_succ, List.set_cons_zero]
            go_simp
            exact hK _ _ ⟨.pointer (some ⟨w1.heap.size, 0, none⟩), (by show _ = Act.put _ (some 18) _; simp only [putAll, Act.put, List.setIfInBounds_toArray, List.set_cons_succ, List.set_cons_zero, *]), ⟨w1.heap.size, rfl, hB.size, newBT _ _ _ _ _⟩, ExtT.of_below (below_new _ _) hB.size, fun h => absurd h (no_of (D := D) (hcl 9) (by kernel_rfl) hD)⟩
          refine AllFrom.step (m := 1) (j := 10) rfl ?_ ?_
          · intro D f w1 hD hB hR hp hcl hX
            obtain ⟨g, eg, hg, hb⟩ := (hp_at hp 8 (by kernel_rfl)).2
            obtain ⟨s5, a5, n5, c5, o5, m5, d5, ev, hcq⟩ := (hp_at hp 6 (by kernel_rfl)).2
            replace ev : f 79 = _ := ev
            replace eg : f 18 = _ := eg
            obtain ⟨u0, u1, u2, q0, q1, q2, z0, z1, z2⟩ := hb.facts
            refine wpOp_step rfl (fun K hK => ?_)
            simp only [putAll, Act.put, List.setIfInBounds_toArray, List.set_cons_succ, List.set_cons_zero]
            go_simp
            exact hK _ _ ⟨undef, (by show _ = Act.put _ (none) _; simp only [putAll, Act.put, List.setIfInBounds_toArray, List.set_cons_succ, List.set_cons_zero, *]), trivial, ExtT.set3 hb hg _ _ _, fun _ => by show HoldsT _ _ (f 18) (f 79); rw [eg, ev]; exact HoldsT.new hb _ _ _⟩
          refine AllFrom.step (m := 0) (j := 11) rfl ?_ ?_
          · intro D f w1 hD hB hR hp hcl hX
            have e7 : f 80 = (.int .i64 E2) := (hp_at hp 7 (by kernel_rfl)).2
            refine wpOp_step rfl (fun K hK => ?_)
            simp only [putAll, Act.put, List.setIfInBounds_toArray, List.set_cons_succ, List.set_cons_zero]
            go_simp
            exact hK _ _ ⟨(.int .i64 E2), (by show _ = Act.put _ (some 19) _; simp only [putAll, Act.put, List.setIfInBounds_toArray, List.set_cons_succ, List.set_cons_zero, *]), rfl, ExtT.refl _ _ _, hX⟩
          exact AllFrom.nil
        · intro D f w1 hall hB hR hX
          simp only [putAll, Act.put, List.setIfInBounds_toArray, List.set_cons_succ, List.set_cons_zero]
          go_wp2_with fail
          go_meet
          exact ⟨hR 10 (by decide), num_cut hB (hX (hall 9 (by decide))) (hR 6 (by decide))⟩
      rename World => X9
      obtain ⟨rfl, g9, s9, e9, n9', k9, o9, m9', t9, rfl, x9, cq9, b9⟩ := hcut
      have HB9' := Lib.hid (HB8'.out.trans (b9.mono HB8'.out.size))
      have XX7 := Lib.hid (carry XX7.out b9)
      have CC7 := Lib.hid (CC7.out.below b9)
      have XX8 := Lib.hid (carry XX8.out b9)
      have CC8 := Lib.hid (CC8.out.below b9)
      have XX9 := Lib.hid x9
      have CC9 := Lib.hid cq9
      clear x9 cq9 b9
      go_upto_region 10 with fail
      go_cut [20, 21] from 81 to 89 (fun vb ve wx => ve = .int .i64 E2 ∧ NumCut X9 (Q2) 5 vb wx)
      case first =>
        refine wp_region_any (by kernel_rfl) ?_
        refine region_ssa [82, 83, 84, 85, 86, 81, 87, 88, 20, 21] (Below X9.heap.size X9) (ExtT 25 X9.heap.size) (TwoF 25 X9.heap.size [.val (.agg #[.bool s, .slice ao n1 ca, .slice bo m1 cb]), .val (.slice (some ⟨g, 0, none⟩) 2 2), .val (.pointer (some ⟨g, 0, none⟩)), .val (.agg #[.int .i64 x1, .int .i64 y1, .int .i64 z1]), .numE E2 (Q2) 5, .numE E2 (Q2) 5, .num (Q2) 5, .val (.int .i64 E2), .box, .any, .val (.int .i64 E2)]) (OneX 25 9 20 87) (fun f => rfl) (by kernel_rfl) (by kernel_rfl) ?_ ?_ ?_ ?_ (AllFrom.below (n := 11) ?_) ?_
        · exact (Below.refl _ _).drew
        · intro f h; cases h
        · intro i v w1 w2 _ h hE; exact TwoF.ext (by decide) i v w1 w2 h hE
        · intro w1 w2 hB hE; exact hB.trans hE.1
        · refine AllFrom.step (m := 10) (j := 1) rfl ?_ ?_
          · intro D f w1 hD hB hR hp hcl hX
            obtain ⟨p0, p1, p2, l0, l1, l2, l3, l4, l5⟩ := KC.out w1 (HB9'.out.trans (hB.mono HB9'.out.size))
            refine wpOp_step rfl (fun K hK => ?_)
            simp only [putAll, Act.put, List.setIfInBounds_toArray, List.set_cons_succ, List.set_cons_zero]
            go_simp
            exact hK _ _ ⟨(.agg #[.bool s, .slice ao n1 ca, .slice bo m1 cb]), (by show _ = Act.put _ (some 82) _; simp only [putAll, Act.put, List.setIfInBounds_toArray, List.set_cons_succ, List.set_cons_zero, *]), rfl, ExtT.refl _ _ _, fun h => absurd h (no_of (D := D) (hcl 9) (by kernel_rfl) hD)⟩
          refine AllFrom.step (m := 9) (j := 2) rfl ?_ ?_
          · intro D f w1 hD hB hR hp hcl hX
            refine wpOp_step rfl (fun K hK => ?_)
            simp only [putAll, Act.put, List.setIfInBounds_toArray, List.set_cons_succ, List.set_cons_zero]
            go_simp
            exact hK _ _ ⟨(.slice (some ⟨g, 0, none⟩) 2 2), (by show _ = Act.put _ (some 83) _; simp only [putAll, Act.put, List.setIfInBounds_toArray, List.set_cons_succ, List.set_cons_zero, *]), rfl, ExtT.refl _ _ _, fun h => absurd h (no_of (D := D) (hcl 9) (by kernel_rfl) hD)⟩
          refine AllFrom.step (m := 8) (j := 3) rfl ?_ ?_
          · intro D f w1 hD hB hR hp hcl hX
            have e1 : f 83 = (.slice (some ⟨g, 0, none⟩) 2 2) := (hp_at hp 1 (by kernel_rfl)).2
            refine wpOp_step rfl (fun K hK => ?_)
            simp only [putAll, Act.put, List.setIfInBounds_toArray, List.set_cons_succ, List.set_cons_zero]
            go_simp
            exact hK _ _ ⟨(.pointer (some ⟨g, 0, none⟩)), (by show _ = Act.put _ (some 84) _; simp only [putAll, Act.put, List.setIfInBounds_toArray, List.set_cons_succ, List.set_cons_zero, *]), rfl, ExtT.refl _ _ _, fun h => absurd h (no_of (D := D) (hcl 9) (by kernel_rfl) hD)⟩
          refine AllFrom.step (m := 7) (j := 4) rfl ?_ ?_
          · intro D f w1 hD hB hR hp hcl hX
            have e2 : f 84 = (.pointer (some ⟨g, 0, none⟩)) := (hp_at hp 2 (by kernel_rfl)).2
            obtain ⟨p0, p1, p2, l0, l1, l2, l3, l4, l5⟩ := KC.out w1 (HB9'.out.trans (hB.mono HB9'.out.size))
            refine wpOp_step rfl (fun K hK => ?_)
            simp only [putAll, Act.put, List.setIfInBounds_toArray, List.set_cons_succ, List.set_cons_zero]
            go_simp
            exact hK _ _ ⟨(.agg #[.int .i64 x1, .int .i64 y1, .int .i64 z1]), (by show _ = Act.put _ (some 85) _; simp only [putAll, Act.put, List.setIfInBounds_toArray, List.set_cons_succ, List.set_cons_zero, *]), rfl, ExtT.refl _ _ _, fun h => absurd h (no_of (D := D) (hcl 9) (by kernel_rfl) hD)⟩
          refine AllFrom.step (m := 6) (j := 5) rfl ?_ ?_
          · intro D f w1 hD hB hR hp hcl hX
            have e0 : f 82 = (.agg #[.bool s, .slice ao n1 ca, .slice bo m1 cb]) := (hp_at hp 0 (by kernel_rfl)).2
            have e3 : f 85 = (.agg #[.int .i64 x1, .int .i64 y1, .int .i64 z1]) := (hp_at hp 3 (by kernel_rfl)).2
            refine wpOp_step rfl (fun K hK => ?_)
            simp only [putAll, Act.put, List.setIfInBounds_toArray, List.set_cons_succ, List.set_cons_zero]
            go_simp
            refine (UR.out _ (HB9'.out.trans (hB.mono HB9'.out.size))).mono ?_
            rintro e w2 ⟨s9, a9, n9, c9, o9, m9, d9, rfl, cq, hb⟩
            go_simp
            exact hK _ _ ⟨.tuple #[.agg #[.bool s9, .slice a9 n9 c9, .slice o9 m9 d9], .int .i64 E2], (by show _ = Act.put _ (some 86) _; simp only [putAll, Act.put, List.setIfInBounds_toArray, List.set_cons_succ, List.set_cons_zero, *]), ⟨_, _, _, _, _, _, _, rfl, cq.mono (Nat.zero_le _)⟩, ExtT.of_below hb hB.size, fun h => absurd h (no_of (D := D) (hcl 9) (by kernel_rfl) hD)⟩
          refine AllFrom.step (m := 5) (j := 6) rfl ?_ ?_
          · intro D f w1 hD hB hR hp hcl hX
            obtain ⟨s4, a4, n4, c4, o4, m4, d4, e4, q4⟩ := (hp_at hp 4 (by kernel_rfl)).2
            replace e4 : f 86 = _ := e4
            refine wpOp_step rfl (fun K hK => ?_)
            simp only [putAll, Act.put, List.setIfInBounds_toArray, List.set_cons_succ, List.set_cons_zero]
            go_simp
            exact hK _ _ ⟨.tuple #[.agg #[.bool s4, .slice a4 n4 c4, .slice o4 m4 d4], .int .i64 E2], (by show _ = Act.put _ (some 81) _; simp only [putAll, Act.put, List.setIfInBounds_toArray, List.set_cons_succ, List.set_cons_zero, *]), ⟨_, _, _, _, _, _, _, rfl, q4⟩, ExtT.refl _ _ _, fun h => absurd h (no_of (D := D) (hcl 9) (by kernel_rfl) hD)⟩
          refine AllFrom.step (m := 4) (j := 7) rfl ?_ ?_
          · intro D f w1 hD hB hR hp hcl hX
            obtain ⟨s5, a5, n5, c5, o5, m5, d5, e5, q5⟩ := (hp_at hp 5 (by kernel_rfl)).2
            replace e5 : f 81 = _ := e5
            refine wpOp_step rfl (fun K hK => ?_)
            simp only [putAll, Act.put, List.setIfInBounds_toArray, List.set_cons_succ, List.set_cons_zero]
            go_simp
            exact hK _ _ ⟨.agg #[.bool s5, .slice a5 n5 c5, .slice o5 m5 d5], (by show _ = Act.put _ (some 87) _; simp only [putAll, Act.put, List.setIfInBounds_toArray, List.set_cons_succ, List.set_cons_zero, *]), ⟨_, _, _, _, _, _, _, rfl, q5⟩, ExtT.refl _ _ _, fun h => absurd h (no_of (D := D) (hcl 9) (by kernel_rfl) hD)⟩
          refine AllFrom.step (m := 3) (j := 8) rfl ?_ ?_
          · intro D f w1 hD hB hR hp hcl hX
            obtain ⟨s5, a5, n5, c5, o5, m5, d5, e5, q5⟩ := (hp_at hp 5 (by kernel_rfl)).2
            replace e5 : f 81 = _ := e5
            refine wpOp_step rfl (fun K hK => ?_)
            simp only [putAll, Act.put, List.setIfInBounds_toArray, List.set_cons_succ, List.set_cons_zero]
            go_simp
            exact hK _ _ ⟨(.int .i64 E2), (by show _ = Act.put _ (some 88) _; simp only [putAll, Act.put, List.setIfInBounds_toArray, List.set_cons_succ, List.set_cons_zero, *]), rfl, ExtT.refl _ _ _, hX⟩
          refine AllFrom.step (m := 2) (j := 9) rfl ?_ ?_
          · intro D f w1 hD hB hR hp hcl hX
            refine wpOp_step rfl (fun K hK => ?_)
            simp only [putAll, Act.put, List.setIfInBounds_toArray, List.set_cons_succ, List.set_cons_zero]
            go_simp
            exact hK _ _ ⟨.pointer (some ⟨w1.heap.size, 0, none⟩), (by show _ = Act.put _ (some 20) _; simp only [putAll, Act.put, List.setIfInBounds_toArray, List.set_cons_succ, List.set_cons_zero, *]), ⟨w1.heap.size, rfl, hB.size, newBT _ _ _ _ _⟩, ExtT.of_below (below_new _ _) hB.size, fun h => absurd h (no_of (D := D) (hcl 9) (by kernel_rfl) hD)⟩
          refine AllFrom.step (m := 1) (j := 10) rfl ?_ ?_
          · intro D f w1 hD hB hR hp hcl hX
            obtain ⟨g, eg, hg, hb⟩ := (hp_at hp 8 (by kernel_rfl)).2
            obtain ⟨s5, a5, n5, c5, o5, m5, d5, ev, hcq⟩ := (hp_at hp 6 (by kernel_rfl)).2
            replace ev : f 87 = _ := ev
            replace eg : f 20 = _ := eg
            obtain ⟨u0, u1, u2, q0, q1, q2, z0, z1, z2⟩ := hb.facts
            refine wpOp_step rfl (fun K hK => ?_)
            simp only [putAll, Act.put, List.setIfInBounds_toArray, List.set_cons_succ, List.set_cons_zero]
            go_simp
            exact hK _ _ ⟨undef, (by show _ = Act.put _ (none) _; simp only [putAll, Act.put, List.setIfInBounds_toArray, List.set_cons_succ, List.set_cons_zero, *]), trivial, ExtT.set3 hb hg _ _ _, fun _ => by show HoldsT _ _ (f 20) (f 87); rw [eg, ev]; exact HoldsT.new hb _ _ _⟩
          refine AllFrom.step (m := 0) (j := 11) rfl ?_ ?_
          · intro D f w1 hD hB hR hp hcl hX
            have e7 : f 88 = (.int .i64 E2) := (hp_at hp 7 (by kernel_rfl)).2
            refine wpOp_step rfl (fun K hK => ?_)
            simp only [putAll, Act.put, List.setIfInBounds_toArray, List.set_cons_succ, List.set_cons_zero]
            go_simp
            exact hK _ _ ⟨(.int .i64 E2), (by show _ = Act.put _ (some 21) _; simp only [putAll, Act.put, List.setIfInBounds_toArray, List.set_cons_succ, List.set_cons_zero, *]), rfl, ExtT.refl _ _ _, hX⟩
          exact AllFrom.nil
        · intro D f w1 hall hB hR hX
          simp only [putAll, Act.put, List.setIfInBounds_toArray, List.set_cons_succ, List.set_cons_zero]
          go_wp2_with fail
          go_meet
          exact ⟨hR 10 (by decide), num_cut hB (hX (hall 9 (by decide))) (hR 6 (by decide))⟩
      rename World => X10
      obtain ⟨rfl, g10, s10, e10, n10', k10, o10, m10', t10, rfl, x10, cq10, b10⟩ := hcut
      have HB10' := Lib.hid (HB9'.out.trans (b10.mono HB9'.out.size))
      have XX7 := Lib.hid (carry XX7.out b10)
      have CC7 := Lib.hid (CC7.out.below b10)
      have XX8 := Lib.hid (carry XX8.out b10)
      have CC8 := Lib.hid (CC8.out.below b10)
      have XX9 := Lib.hid (carry XX9.out b10)
      have CC9 := Lib.hid (CC9.out.below b10)
      have XX10 := Lib.hid x10
      have CC10 := Lib.hid cq10
      clear x10 cq10 b10
      go_upto_region 11 with fail
      go_cut [22, 23] from 89 to 100 (fun vb ve wx => ve = .int .i64 E1 ∧ NumCut X10 (Q3) 5 vb wx)
      case first =>
        refine wp_region_any (by kernel_rfl) ?_
        refine region_ssa [90, 91, 92, 93, 94, 95, 96, 97, 89, 98, 99, 22, 23] (Below X10.heap.size X10) (ExtT 25 X10.heap.size) (TwoF 25 X10.heap.size [.val (.agg #[.bool s, .slice ao n1 ca, .slice bo m1 cb]), .val (.slice (some ⟨g, 0, none⟩) 2 2), .val (.pointer (some ⟨g, 0, none⟩)), .val (.agg #[.int .i64 x1, .int .i64 y1, .int .i64 z1]), .val (.slice (some ⟨g, 0, none⟩) 2 2), .val (.pointer (some ⟨g, 3, none⟩)), .val (.agg #[.int .i64 x2, .int .i64 y2, .int .i64 z2]), .numE E1 (Q3) 5, .numE E1 (Q3) 5, .num (Q3) 5, .val (.int .i64 E1), .box, .any, .val (.int .i64 E1)]) (OneX 25 12 22 98) (fun f => rfl) (by kernel_rfl) (by kernel_rfl) ?_ ?_ ?_ ?_ (AllFrom.below (n := 14) ?_) ?_
        · exact (Below.refl _ _).drew
        · intro f h; cases h
        · intro i v w1 w2 _ h hE; exact TwoF.ext (by decide) i v w1 w2 h hE
        · intro w1 w2 hB hE; exact hB.trans hE.1
        · refine AllFrom.step (m := 13) (j := 1) rfl ?_ ?_
          · intro D f w1 hD hB hR hp hcl hX
            obtain ⟨p0, p1, p2, l0, l1, l2, l3, l4, l5⟩ := KC.out w1 (HB10'.out.trans (hB.mono HB10'.out.size))
            refine wpOp_step rfl (fun K hK => ?_)
            simp only [putAll, Act.put, List.setIfInBounds_toArray, List.set_cons_succ, List.set_cons_zero]
            go_simp
            exact hK _ _ ⟨(.agg #[.bool s, .slice ao n1 ca, .slice bo m1 cb]), (by show _ = Act.put _ (some 90) _; simp only [putAll, Act.put, List.setIfInBounds_toArray, List.set_cons_succ, List.set_cons_zero, *]), rfl, ExtT.refl _ _ _, fun h => absurd h (no_of (D := D) (hcl 12) (by kernel_rfl) hD)⟩
          refine AllFrom.step (m := 12) (j := 2) rfl ?_ ?_
          · intro D f w1 hD hB hR hp hcl hX
            refine wpOp_step rfl (fun K hK => ?_)
            simp only [putAll, Act.put, List.setIfInBounds_toArray, List.set_cons_succ, List.set_cons_zero]
            go_simp
            exact hK _ _ ⟨(.slice (some ⟨g, 0, none⟩) 2 2), (by show _ = Act.put _ (some 91) _; simp only [putAll, Act.put, List.setIfInBounds_toArray, List.set_cons_succ, List.set_cons_zero, *]), rfl, ExtT.refl _ _ _, fun h => absurd h (no_of (D := D) (hcl 12) (by kernel_rfl) hD)⟩
          refine AllFrom.step (m := 11) (j := 3) rfl ?_ ?_
          · intro D f w1 hD hB hR hp hcl hX
            have e1 : f 91 = (.slice (some ⟨g, 0, none⟩) 2 2) := (hp_at hp 1 (by kernel_rfl)).2
            refine wpOp_step rfl (fun K hK => ?_)
            simp only [putAll, Act.put, List.setIfInBounds_toArray, List.set_cons_succ, List.set_cons_zero]
            go_simp
            exact hK _ _ ⟨(.pointer (some ⟨g, 0, none⟩)), (by show _ = Act.put _ (some 92) _; simp only [putAll, Act.put, List.setIfInBounds_toArray, List.set_cons_succ, List.set_cons_zero, *]), rfl, ExtT.refl _ _ _, fun h => absurd h (no_of (D := D) (hcl 12) (by kernel_rfl) hD)⟩
          refine AllFrom.step (m := 10) (j := 4) rfl ?_ ?_
          · intro D f w1 hD hB hR hp hcl hX
            have e2 : f 92 = (.pointer (some ⟨g, 0, none⟩)) := (hp_at hp 2 (by kernel_rfl)).2
            obtain ⟨p0, p1, p2, l0, l1, l2, l3, l4, l5⟩ := KC.out w1 (HB10'.out.trans (hB.mono HB10'.out.size))
            refine wpOp_step rfl (fun K hK => ?_)
            simp only [putAll, Act.put, List.setIfInBounds_toArray, List.set_cons_succ, List.set_cons_zero]
            go_simp
            exact hK _ _ ⟨(.agg #[.int .i64 x1, .int .i64 y1, .int .i64 z1]), (by show _ = Act.put _ (some 93) _; simp only [putAll, Act.put, List.setIfInBounds_toArray, List.set_cons_succ, List.set_cons_zero, *]), rfl, ExtT.refl _ _ _, fun h => absurd h (no_of (D := D) (hcl 12) (by kernel_rfl) hD)⟩
          refine AllFrom.step (m := 9) (j := 5) rfl ?_ ?_
          · intro D f w1 hD hB hR hp hcl hX
            refine wpOp_step rfl (fun K hK => ?_)
            simp only [putAll, Act.put, List.setIfInBounds_toArray, List.set_cons_succ, List.set_cons_zero]
            go_simp
            exact hK _ _ ⟨(.slice (some ⟨g, 0, none⟩) 2 2), (by show _ = Act.put _ (some 94) _; simp only [putAll, Act.put, List.setIfInBounds_toArray, List.set_cons_succ, List.set_cons_zero, *]), rfl, ExtT.refl _ _ _, fun h => absurd h (no_of (D := D) (hcl 12) (by kernel_rfl) hD)⟩
          refine AllFrom.step (m := 8) (j := 6) rfl ?_ ?_
          · intro D f w1 hD hB hR hp hcl hX
            have e4 : f 94 = (.slice (some ⟨g, 0, none⟩) 2 2) := (hp_at hp 4 (by kernel_rfl)).2
            refine wpOp_step rfl (fun K hK => ?_)
            simp only [putAll, Act.put, List.setIfInBounds_toArray, List.set_cons_succ, List.set_cons_zero]
            go_simp
            exact hK _ _ ⟨(.pointer (some ⟨g, 3, none⟩)), (by show _ = Act.put _ (some 95) _; simp only [putAll, Act.put, List.setIfInBounds_toArray, List.set_cons_succ, List.set_cons_zero, *]), rfl, ExtT.refl _ _ _, fun h => absurd h (no_of (D := D) (hcl 12) (by kernel_rfl) hD)⟩
          refine AllFrom.step (m := 7) (j := 7) rfl ?_ ?_
          · intro D f w1 hD hB hR hp hcl hX
            have e5 : f 95 = (.pointer (some ⟨g, 3, none⟩)) := (hp_at hp 5 (by kernel_rfl)).2
            obtain ⟨p0, p1, p2, l0, l1, l2, l3, l4, l5⟩ := KC.out w1 (HB10'.out.trans (hB.mono HB10'.out.size))
            refine wpOp_step rfl (fun K hK => ?_)
            simp only [putAll, Act.put, List.setIfInBounds_toArray, List.set_cons_succ, List.set_cons_zero]
            go_simp
            exact hK _ _ ⟨(.agg #[.int .i64 x2, .int .i64 y2, .int .i64 z2]), (by show _ = Act.put _ (some 96) _; simp only [putAll, Act.put, List.setIfInBounds_toArray, List.set_cons_succ, List.set_cons_zero, *]), rfl, ExtT.refl _ _ _, fun h => absurd h (no_of (D := D) (hcl 12) (by kernel_rfl) hD)⟩
          refine AllFrom.step (m := 6) (j := 8) rfl ?_ ?_
          · intro D f w1 hD hB hR hp hcl hX
            have e0 : f 90 = (.agg #[.bool s, .slice ao n1 ca, .slice bo m1 cb]) := (hp_at hp 0 (by kernel_rfl)).2
            have e3 : f 93 = (.agg #[.int .i64 x1, .int .i64 y1, .int .i64 z1]) := (hp_at hp 3 (by kernel_rfl)).2
            have e6 : f 96 = (.agg #[.int .i64 x2, .int .i64 y2, .int .i64 z2]) := (hp_at hp 6 (by kernel_rfl)).2
            refine wpOp_step rfl (fun K hK => ?_)
            simp only [putAll, Act.put, List.setIfInBounds_toArray, List.set_cons_succ, List.set_cons_zero]
            go_simp
            refine (SC.out _ (HB10'.out.trans (hB.mono HB10'.out.size))).mono ?_
            rintro e w2 ⟨s9, a9, n9, c9, o9, m9, d9, rfl, cq, hb⟩
            go_simp
            exact hK _ _ ⟨.tuple #[.agg #[.bool s9, .slice a9 n9 c9, .slice o9 m9 d9], .int .i64 E1], (by show _ = Act.put _ (some 97) _; simp only [putAll, Act.put, List.setIfInBounds_toArray, List.set_cons_succ, List.set_cons_zero, *]), ⟨_, _, _, _, _, _, _, rfl, cq.mono (Nat.zero_le _)⟩, ExtT.of_below hb hB.size, fun h => absurd h (no_of (D := D) (hcl 12) (by kernel_rfl) hD)⟩
          refine AllFrom.step (m := 5) (j := 9) rfl ?_ ?_
          · intro D f w1 hD hB hR hp hcl hX
            obtain ⟨s7, a7, n7, c7, o7, m7, d7, e7, q7⟩ := (hp_at hp 7 (by kernel_rfl)).2
            replace e7 : f 97 = _ := e7
            refine wpOp_step rfl (fun K hK => ?_)
            simp only [putAll, Act.put, List.setIfInBounds_toArray, List.set_cons_succ, List.set_cons_zero]
            go_simp
            exact hK _ _ ⟨.tuple #[.agg #[.bool s7, .slice a7 n7 c7, .slice o7 m7 d7], .int .i64 E1], (by show _ = Act.put _ (some 89) _; simp only [putAll, Act.put, List.setIfInBounds_toArray, List.set_cons_succ, List.set_cons_zero, *]), ⟨_, _, _, _, _, _, _, rfl, q7⟩, ExtT.refl _ _ _, fun h => absurd h (no_of (D := D) (hcl 12) (by kernel_rfl) hD)⟩
          refine AllFrom.step (m := 4) (j := 10) rfl ?_ ?_
          · intro D f w1 hD hB hR hp hcl hX
            obtain ⟨s8, a8, n8, c8, o8, m8, d8, e8, q8⟩ := (hp_at hp 8 (by kernel_rfl)).2
            replace e8 : f 89 = _ := e8
            refine wpOp_step rfl (fun K hK => ?_)
            simp only [putAll, Act.put, List.setIfInBounds_toArray, List.set_cons_succ, List.set_cons_zero]
            go_simp
            exact hK _ _ ⟨.agg #[.bool s8, .slice a8 n8 c8, .slice o8 m8 d8], (by show _ = Act.put _ (some 98) _; simp only [putAll, Act.put, List.setIfInBounds_toArray, List.set_cons_succ, List.set_cons_zero, *]), ⟨_, _, _, _, _, _, _, rfl, q8⟩, ExtT.refl _ _ _, fun h => absurd h (no_of (D := D) (hcl 12) (by kernel_rfl) hD)⟩
          refine AllFrom.step (m := 3) (j := 11) rfl ?_ ?_
          · intro D f w1 hD hB hR hp hcl hX
            obtain ⟨s8, a8, n8, c8, o8, m8, d8, e8, q8⟩ := (hp_at hp 8 (by kernel_rfl)).2
            replace e8 : f 89 = _ := e8
            refine wpOp_step rfl (fun K hK => ?_)
            simp only [putAll, Act.put, List.setIfInBounds_toArray, List.set_cons_succ, List.set_cons_zero]
            go_simp
            exact hK _ _ ⟨(.int .i64 E1), (by show _ = Act.put _ (some 99) _; simp only [putAll, Act.put, List.setIfInBounds_toArray, List.set_cons_succ, List.set_cons_zero, *]), rfl, ExtT.refl _ _ _, hX⟩
          refine AllFrom.step (m := 2) (j := 12) rfl ?_ ?_
          · intro D f w1 hD hB hR hp hcl hX
            refine wpOp_step rfl (fun K hK => ?_)
            simp only [putAll, Act.put, List.setIfInBounds_toArray, List.set_cons_succ, List.set_cons_zero]
            go_simp
            exact hK _ _ ⟨.pointer (some ⟨w1.heap.size, 0, none⟩), (by show _ = Act.put _ (some 22) _; simp only [putAll, Act.put, List.setIfInBounds_toArray, List.set_cons_succ, List.set_cons_zero, *]), ⟨w1.heap.size, rfl, hB.size, newBT _ _ _ _ _⟩, ExtT.of_below (below_new _ _) hB.size, fun h => absurd h (no_of (D := D) (hcl 12) (by kernel_rfl) hD)⟩
          refine AllFrom.step (m := 1) (j := 13) rfl ?_ ?_
          · intro D f w1 hD hB hR hp hcl hX
            obtain ⟨g, eg, hg, hb⟩ := (hp_at hp 11 (by kernel_rfl)).2
            obtain ⟨s5, a5, n5, c5, o5, m5, d5, ev, hcq⟩ := (hp_at hp 9 (by kernel_rfl)).2
            replace ev : f 98 = _ := ev
            replace eg : f 22 = _ := eg
            obtain ⟨u0, u1, u2, q0, q1, q2, z0, z1, z2⟩ := hb.facts
            refine wpOp_step rfl (fun K hK => ?_)
            simp only [putAll, Act.put, List.setIfInBounds_toArray, List.set_cons_succ, List.set_cons_zero]
            go_simp
            exact hK _ _ ⟨undef, (by show _ = Act.put _ (none) _; simp only [putAll, Act.put, List.setIfInBounds_toArray, List.set_cons_succ, List.set_cons_zero, *]), trivial, ExtT.set3 hb hg _ _ _, fun _ => by show HoldsT _ _ (f 22) (f 98); rw [eg, ev]; exact HoldsT.new hb _ _ _⟩
          refine AllFrom.step (m := 0) (j := 14) rfl ?_ ?_
          · intro D f w1 hD hB hR hp hcl hX
            have e10 : f 99 = (.int .i64 E1) := (hp_at hp 10 (by kernel_rfl)).2
            refine wpOp_step rfl (fun K hK => ?_)
            simp only [putAll, Act.put, List.setIfInBounds_toArray, List.set_cons_succ, List.set_cons_zero]
            go_simp
            exact hK _ _ ⟨(.int .i64 E1), (by show _ = Act.put _ (some 23) _; simp only [putAll, Act.put, List.setIfInBounds_toArray, List.set_cons_succ, List.set_cons_zero, *]), rfl, ExtT.refl _ _ _, hX⟩
          exact AllFrom.nil
        · intro D f w1 hall hB hR hX
          simp only [putAll, Act.put, List.setIfInBounds_toArray, List.set_cons_succ, List.set_cons_zero]
          go_wp2_with fail
          go_meet
          exact ⟨hR 13 (by decide), num_cut hB (hX (hall 12 (by decide))) (hR 9 (by decide))⟩
      rename World => X11
      obtain ⟨rfl, g11, s11, e11, n11', k11, o11, m11', t11, rfl, x11, cq11, b11⟩ := hcut
      have HB11' := Lib.hid (HB10'.out.trans (b11.mono HB10'.out.size))
      have XX7 := Lib.hid (carry XX7.out b11)
      have CC7 := Lib.hid (CC7.out.below b11)
      have XX8 := Lib.hid (carry XX8.out b11)
      have CC8 := Lib.hid (CC8.out.below b11)
      have XX9 := Lib.hid (carry XX9.out b11)
      have CC9 := Lib.hid (CC9.out.below b11)
      have XX10 := Lib.hid (carry XX10.out b11)
      have CC10 := Lib.hid (CC10.out.below b11)
      have XX11 := Lib.hid x11
      have CC11 := Lib.hid cq11
      clear x11 cq11 b11
      go_upto_region 12 with fail
      go_cut [24, 25] from 100 to 111 (fun vb ve wx => ve = .int .i64 E1 ∧ NumCut X11 (Q3) 5 vb wx)
      case first =>
        refine wp_region_any (by kernel_rfl) ?_
        refine region_ssa [101, 102, 103, 104, 105, 106, 107, 108, 100, 109, 110, 24, 25] (Below X11.heap.size X11) (ExtT 25 X11.heap.size) (TwoF 25 X11.heap.size [.val (.agg #[.bool s, .slice ao n1 ca, .slice bo m1 cb]), .val (.slice (some ⟨g, 0, none⟩) 2 2), .val (.pointer (some ⟨g, 0, none⟩)), .val (.agg #[.int .i64 x1, .int .i64 y1, .int .i64 z1]), .val (.slice (some ⟨g, 0, none⟩) 2 2), .val (.pointer (some ⟨g, 3, none⟩)), .val (.agg #[.int .i64 x2, .int .i64 y2, .int .i64 z2]), .numE E1 (Q3) 5, .numE E1 (Q3) 5, .num (Q3) 5, .val (.int .i64 E1), .box, .any, .val (.int .i64 E1)]) (OneX 25 12 24 109) (fun f => rfl) (by kernel_rfl) (by kernel_rfl) ?_ ?_ ?_ ?_ (AllFrom.below (n := 14) ?_) ?_
        · exact (Below.refl _ _).drew
        · intro f h; cases h
        · intro i v w1 w2 _ h hE; exact TwoF.ext (by decide) i v w1 w2 h hE
        · intro w1 w2 hB hE; exact hB.trans hE.1
        · refine AllFrom.step (m := 13) (j := 1) rfl ?_ ?_
          · intro D f w1 hD hB hR hp hcl hX
            obtain ⟨p0, p1, p2, l0, l1, l2, l3, l4, l5⟩ := KC.out w1 (HB11'.out.trans (hB.mono HB11'.out.size))
            refine wpOp_step rfl (fun K hK => ?_)
            simp only [putAll, Act.put, List.setIfInBounds_toArray, List.set_cons_succ, List.set_cons_zero]
            go_simp
            exact hK _ _ ⟨(.agg #[.bool s, .slice ao n1 ca, .slice bo m1 cb]), (by show _ = Act.put _ (some 101) _; simp only [putAll, Act.put, List.setIfInBounds_toArray, List.set_cons_succ, List.set_cons_zero, *]), rfl, ExtT.refl _ _ _, fun h => absurd h (no_of (D := D) (hcl 12) (by kernel_rfl) hD)⟩
          refine AllFrom.step (m := 12) (j := 2) rfl ?_ ?_
          · intro D f w1 hD hB hR hp hcl hX
            refine wpOp_step rfl (fun K hK => ?_)
            simp only [putAll, Act.put, List.setIfInBounds_toArray, List.set_cons_succ, List.set_cons_zero]
            go_simp
            exact hK _ _ ⟨(.slice (some ⟨g, 0, none⟩) 2 2), (by show _ = Act.put _ (some 102) _; simp only [putAll, Act.put, List.setIfInBounds_toArray, List.set_cons_succ, List.set_cons_zero, *]), rfl, ExtT.refl _ _ _, fun h => absurd h (no_of (D := D) (hcl 12) (by kernel_rfl) hD)⟩
          refine AllFrom.step (m := 11) (j := 3) rfl ?_ ?_
          · intro D f w1 hD hB hR hp hcl hX
            have e1 : f 102 = (.slice (some ⟨g, 0, none⟩) 2 2) := (hp_at hp 1 (by kernel_rfl)).2
            refine wpOp_step rfl (fun K hK => ?_)
            simp only [putAll, Act.put, List.setIfInBounds_toArray, List.set_cons_succ, List.set_cons_zero]
            go_simp
            exact hK _ _ ⟨(.pointer (some ⟨g, 0, none⟩)), (by show _ = Act.put _ (some 103) _; simp only [putAll, Act.put, List.setIfInBounds_toArray, List.set_cons_succ, List.set_cons_zero, *]), rfl, ExtT.refl _ _ _, fun h => absurd h (no_of (D := D) (hcl 12) (by kernel_rfl) hD)⟩
          refine AllFrom.step (m := 10) (j := 4) rfl ?_ ?_
          · intro D f w1 hD hB hR hp hcl hX
            have e2 : f 103 = (.pointer (some ⟨g, 0, none⟩)) := (hp_at hp 2 (by kernel_rfl)).2
            obtain ⟨p0, p1, p2, l0, l1, l2, l3, l4, l5⟩ := KC.out w1 (HB11'.out.trans (hB.mono HB11'.out.size))
            refine wpOp_step rfl (fun K hK => ?_)
            simp only [putAll, Act.put, List.setIfInBounds_toArray, List.set_cons_succ, List.set_cons_zero]
            go_simp
            exact hK _ _ ⟨(.agg #[.int .i64 x1, .int .i64 y1, .int .i64 z1]), (by show _ = Act.put _ (some 104) _; simp only [putAll, Act.put, List.setIfInBounds_toArray, List.set_cons_succ, List.set_cons_zero, *]), rfl, ExtT.refl _ _ _, fun h => absurd h (no_of (D := D) (hcl 12) (by kernel_rfl) hD)⟩
          refine AllFrom.step (m := 9) (j := 5) rfl ?_ ?_
          · intro D f w1 hD hB hR hp hcl hX
            refine wpOp_step rfl (fun K hK => ?_)
            simp only [putAll, Act.put, List.setIfInBounds_toArray, List.set_cons_succ, List.set_cons_zero]
            go_simp
            exact hK _ _ ⟨(.slice (some ⟨g, 0, none⟩) 2 2), (by show _ = Act.put _ (some 105) _; simp only [putAll, Act.put, List.setIfInBounds_toArray, List.set_cons_succ, List.set_cons_zero, *]), rfl, ExtT.refl _ _ _, fun h => absurd h (no_of (D := D) (hcl 12) (by kernel_rfl) hD)⟩
          refine AllFrom.step (m := 8) (j := 6) rfl ?_ ?_
          · intro D f w1 hD hB hR hp hcl hX
            have e4 : f 105 = (.slice (some ⟨g, 0, none⟩) 2 2) := (hp_at hp 4 (by kernel_rfl)).2
            refine wpOp_step rfl (fun K hK => ?_)
            simp only [putAll, Act.put, List.setIfInBounds_toArray, List.set_cons_succ, List.set_cons_zero]
            go_simp
            exact hK _ _ ⟨(.pointer (some ⟨g, 3, none⟩)), (by show _ = Act.put _ (some 106) _; simp only [putAll, Act.put, List.setIfInBounds_toArray, List.set_cons_succ, List.set_cons_zero, *]), rfl, ExtT.refl _ _ _, fun h => absurd h (no_of (D := D) (hcl 12) (by kernel_rfl) hD)⟩
          refine AllFrom.step (m := 7) (j := 7) rfl ?_ ?_
          · intro D f w1 hD hB hR hp hcl hX
            have e5 : f 106 = (.pointer (some ⟨g, 3, none⟩)) := (hp_at hp 5 (by kernel_rfl)).2
            obtain ⟨p0, p1, p2, l0, l1, l2, l3, l4, l5⟩ := KC.out w1 (HB11'.out.trans (hB.mono HB11'.out.size))
            refine wpOp_step rfl (fun K hK => ?_)
            simp only [putAll, Act.put, List.setIfInBounds_toArray, List.set_cons_succ, List.set_cons_zero]
            go_simp
            exact hK _ _ ⟨(.agg #[.int .i64 x2, .int .i64 y2, .int .i64 z2]), (by show _ = Act.put _ (some 107) _; simp only [putAll, Act.put, List.setIfInBounds_toArray, List.set_cons_succ, List.set_cons_zero, *]), rfl, ExtT.refl _ _ _, fun h => absurd h (no_of (D := D) (hcl 12) (by kernel_rfl) hD)⟩
          refine AllFrom.step (m := 6) (j := 8) rfl ?_ ?_
          · intro D f w1 hD hB hR hp hcl hX
            have e0 : f 101 = (.agg #[.bool s, .slice ao n1 ca, .slice bo m1 cb]) := (hp_at hp 0 (by kernel_rfl)).2
            have e3 : f 104 = (.agg #[.int .i64 x1, .int .i64 y1, .int .i64 z1]) := (hp_at hp 3 (by kernel_rfl)).2
            have e6 : f 107 = (.agg #[.int .i64 x2, .int .i64 y2, .int .i64 z2]) := (hp_at hp 6 (by kernel_rfl)).2
            refine wpOp_step rfl (fun K hK => ?_)
            simp only [putAll, Act.put, List.setIfInBounds_toArray, List.set_cons_succ, List.set_cons_zero]
            go_simp
            refine (SR.out _ (HB11'.out.trans (hB.mono HB11'.out.size))).mono ?_
            rintro e w2 ⟨s9, a9, n9, c9, o9, m9, d9, rfl, cq, hb⟩
            go_simp
            exact hK _ _ ⟨.tuple #[.agg #[.bool s9, .slice a9 n9 c9, .slice o9 m9 d9], .int .i64 E1], (by show _ = Act.put _ (some 108) _; simp only [putAll, Act.put, List.setIfInBounds_toArray, List.set_cons_succ, List.set_cons_zero, *]), ⟨_, _, _, _, _, _, _, rfl, cq.mono (Nat.zero_le _)⟩, ExtT.of_below hb hB.size, fun h => absurd h (no_of (D := D) (hcl 12) (by kernel_rfl) hD)⟩
          refine AllFrom.step (m := 5) (j := 9) rfl ?_ ?_
          · intro D f w1 hD hB hR hp hcl hX
            obtain ⟨s7, a7, n7, c7, o7, m7, d7, e7, q7⟩ := (hp_at hp 7 (by kernel_rfl)).2
            replace e7 : f 108 = _ := e7
            refine wpOp_step rfl (fun K hK => ?_)
            simp only [putAll, Act.put, List.setIfInBounds_toArray, List.set_cons_succ, List.set_cons_zero]
            go_simp
            exact hK _ _ ⟨.tuple #[.agg #[.bool s7, .slice a7 n7 c7, .slice o7 m7 d7], .int .i64 E1], (by show _ = Act.put _ (some 100) _; simp only [putAll, Act.put, List.setIfInBounds_toArray, List.set_cons_succ, List.set_cons_zero, *]), ⟨_, _, _, _, _, _, _, rfl, q7⟩, ExtT.refl _ _ _, fun h => absurd h (no_of (D := D) (hcl 12) (by kernel_rfl) hD)⟩
          refine AllFrom.step (m := 4) (j := 10) rfl ?_ ?_
          · intro D f w1 hD hB hR hp hcl hX
            obtain ⟨s8, a8, n8, c8, o8, m8, d8, e8, q8⟩ := (hp_at hp 8 (by kernel_rfl)).2
            replace e8 : f 100 = _ := e8
            refine wpOp_step rfl (fun K hK => ?_)
            simp only [putAll, Act.put, List.setIfInBounds_toArray, List.set_cons_succ, List.set_cons_zero]
            go_simp
            exact hK _ _ ⟨.agg #[.bool s8, .slice a8 n8 c8, .slice o8 m8 d8], (by show _ = Act.put _ (some 109) _; simp only [putAll, Act.put, List.setIfInBounds_toArray, List.set_cons_succ, List.set_cons_zero, *]), ⟨_, _, _, _, _, _, _, rfl, q8⟩, ExtT.refl _ _ _, fun h => absurd h (no_of (D := D) (hcl 12) (by kernel_rfl) hD)⟩
          refine AllFrom.step (m := 3) (j := 11) rfl ?_ ?_
          · intro D f w1 hD hB hR hp hcl hX
            obtain ⟨s8, a8, n8, c8, o8, m8, d8, e8, q8⟩ := (hp_at hp 8 (by kernel_rfl)).2
            replace e8 : f 100 = _ := e8
            refine wpOp_step rfl (fun K hK => ?_)
            simp only [putAll, Act.put, List.setIfInBounds_toArray, List.set_cons_succ, List.set_cons_zero]
            go_simp
            exact hK _ _ ⟨(.int .i64 E1), (by show _ = Act.put _ (some 110) _; simp only [putAll, Act.put, List.setIfInBounds_toArray, List.set_cons_succ, List.set_cons_zero, *]), rfl, ExtT.refl _ _ _, hX⟩
          refine AllFrom.step (m := 2) (j := 12) rfl ?_ ?_
          · intro D f w1 hD hB hR hp hcl hX
            refine wpOp_step rfl (fun K hK => ?_)
            simp only [putAll, Act.put, List.setIfInBounds_toArray, List.set_cons_succ, List.set_cons_zero]
            go_simp
            exact hK _ _ ⟨.pointer (some ⟨w1.heap.size, 0, none⟩), (by show _ = Act.put _ (some 24) _; simp only [putAll, Act.put, List.setIfInBounds_toArray, List.set_cons_succ, List.set_cons_zero, *]), ⟨w1.heap.size, rfl, hB.size, newBT _ _ _ _ _⟩, ExtT.of_below (below_new _ _) hB.size, fun h => absurd h (no_of (D := D) (hcl 12) (by kernel_rfl) hD)⟩
          refine AllFrom.step (m := 1) (j := 13) rfl ?_ ?_
          · intro D f w1 hD hB hR hp hcl hX
            obtain ⟨g, eg, hg, hb⟩ := (hp_at hp 11 (by kernel_rfl)).2
            obtain ⟨s5, a5, n5, c5, o5, m5, d5, ev, hcq⟩ := (hp_at hp 9 (by kernel_rfl)).2
            replace ev : f 109 = _ := ev
            replace eg : f 24 = _ := eg
            obtain ⟨u0, u1, u2, q0, q1, q2, z0, z1, z2⟩ := hb.facts
            refine wpOp_step rfl (fun K hK => ?_)
            simp only [putAll, Act.put, List.setIfInBounds_toArray, List.set_cons_succ, List.set_cons_zero]
            go_simp
            exact hK _ _ ⟨undef, (by show _ = Act.put _ (none) _; simp only [putAll, Act.put, List.setIfInBounds_toArray, List.set_cons_succ, List.set_cons_zero, *]), trivial, ExtT.set3 hb hg _ _ _, fun _ => by show HoldsT _ _ (f 24) (f 109); rw [eg, ev]; exact HoldsT.new hb _ _ _⟩
          refine AllFrom.step (m := 0) (j := 14) rfl ?_ ?_
          · intro D f w1 hD hB hR hp hcl hX
            have e10 : f 110 = (.int .i64 E1) := (hp_at hp 10 (by kernel_rfl)).2
            refine wpOp_step rfl (fun K hK => ?_)
            simp only [putAll, Act.put, List.setIfInBounds_toArray, List.set_cons_succ, List.set_cons_zero]
            go_simp
            exact hK _ _ ⟨(.int .i64 E1), (by show _ = Act.put _ (some 25) _; simp only [putAll, Act.put, List.setIfInBounds_toArray, List.set_cons_succ, List.set_cons_zero, *]), rfl, ExtT.refl _ _ _, hX⟩
          exact AllFrom.nil
        · intro D f w1 hall hB hR hX
          simp only [putAll, Act.put, List.setIfInBounds_toArray, List.set_cons_succ, List.set_cons_zero]
          go_wp2_with fail
          go_meet
          exact ⟨hR 13 (by decide), num_cut hB (hX (hall 12 (by decide))) (hR 9 (by decide))⟩
      rename World => X12
      obtain ⟨rfl, g12, s12, e12, n12', k12, o12, m12', t12, rfl, x12, cq12, b12⟩ := hcut
      have HB12' := Lib.hid (HB11'.out.trans (b12.mono HB11'.out.size))
      have XX7 := Lib.hid (carry XX7.out b12)
      have CC7 := Lib.hid (CC7.out.below b12)
      have XX8 := Lib.hid (carry XX8.out b12)
      have CC8 := Lib.hid (CC8.out.below b12)
      have XX9 := Lib.hid (carry XX9.out b12)
      have CC9 := Lib.hid (CC9.out.below b12)
      have XX10 := Lib.hid (carry XX10.out b12)
      have CC10 := Lib.hid (CC10.out.below b12)
      have XX11 := Lib.hid (carry XX11.out b12)
      have CC11 := Lib.hid (CC11.out.below b12)
      have XX12 := Lib.hid x12
      have CC12 := Lib.hid cq12
      clear x12 cq12 b12
      go_upto_region 13 with fail
      obtain ⟨i0, i1, i2, _⟩ := at_blockQ XX7.out
      obtain ⟨j0, j1, j2, _⟩ := at_blockQ XX8.out
      go_wp2_with fail
      refine (Same_q CC7.out CC8.out rfl).mono ?_; rintro e X13 ⟨rfl, b13⟩
      have HB13' := Lib.hid (HB12'.out.trans (b13.mono HB12'.out.size))
      have XX9 := Lib.hid (carry XX9.out b13)
      have CC9 := Lib.hid (CC9.out.below b13)
      have XX10 := Lib.hid (carry XX10.out b13)
      have CC10 := Lib.hid (CC10.out.below b13)
      have XX11 := Lib.hid (carry XX11.out b13)
      have CC11 := Lib.hid (CC11.out.below b13)
      have XX12 := Lib.hid (carry XX12.out b13)
      have CC12 := Lib.hid (CC12.out.below b13)
      clear b13 i0 i1 i2 j0 j1 j2
      obtain ⟨i0, i1, i2, _⟩ := at_blockQ XX9.out
      obtain ⟨j0, j1, j2, _⟩ := at_blockQ XX10.out
      go_wp2_with fail
      refine (Same_q CC9.out CC10.out rfl).mono ?_; rintro e X14 ⟨rfl, b14⟩
      have HB14' := Lib.hid (HB13'.out.trans (b14.mono HB13'.out.size))
      have XX11 := Lib.hid (carry XX11.out b14)
      have CC11 := Lib.hid (CC11.out.below b14)
      have XX12 := Lib.hid (carry XX12.out b14)
      have CC12 := Lib.hid (CC12.out.below b14)
      clear b14 i0 i1 i2 j0 j1 j2
      obtain ⟨i0, i1, i2, _⟩ := at_blockQ XX11.out
      obtain ⟨j0, j1, j2, _⟩ := at_blockQ XX12.out
      go_wp2_with fail
      refine (Same_q CC11.out CC12.out rfl).mono ?_; rintro e X15 ⟨rfl, b15⟩
      have HB15' := Lib.hid (HB14'.out.trans (b15.mono HB14'.out.size))
      clear b15 i0 i1 i2 j0 j1 j2
      have HN : Hid (Below U7.heap.size U7 X15) := hwr.out.trans (HB15'.out.mono hwr.out.size)
      go_wp2_with fail
      go_roundw
      case rel => exact ⟨i + 1, by omega, by go_num, HN⟩
      case measure => simp [intOf]; omega
    · obtain rfl : i = 4 := by omega
      have AW := Lib.hid (awake8_v wr (EN.out.below BW.out))
      go_wp2_with fail
      refine AW.out.mono ?_; rintro e w9 ⟨rfl, b9⟩
      have B9 := Lib.hid (BW.out.trans (b9.mono BW.out.size))
      clear b9
      go_wp2_with fail
      go_ret
      exact ⟨rfl, B9.out⟩
end Go.Proofs.YtobiepkhommeaaaGreatDoor
/- QuantityFactors holds for every input: Factor, UnitPrice and Scale answer as the reference does, their errors too; no condition.; no condition. -/
namespace Go.Proofs.YtobiepkhommeaaaGreatDoor.lawQtyFactors
open Go.ChangeShapes Go.WideShapes Go.ChangeAt Go.RowKit

set_option maxRecDepth 100000 in
set_option maxHeartbeats 1000000 in
theorem contract (H : Type) (enc : TypeId × Value → H) (W : World) (base : Nat) (args : Array Value) (ds gs : List (DataW H)) (before : List MemPlace)
    (hval : ∀ (j : Nat) t v, Tryz.f7.params[j]? = some t → args[j]? = some v → Value.okWide Tryz.prog W .any base t v)
    (hW : DataW.Whole enc Tryz.prog Tryz.f7.params.toList Rows.quantityFactorsSpec.vars false W args.toList ds gs before) (hL : laidMetH Tryz.prog Rows.quantityFactorsRow.laid W) (hsh : W.ShapedOpen Tryz.prog) :
    Calls Tryz.prog 7 args W fun e W' => ∃ v, e = .returned v ∧ Rows.quantityFactorsSpec.post enc Tryz.prog Tryz.f7 false true false false W args v W' := by
  have hW' := hW
  obtain ⟨p, q, hA0, _, _, _, _⟩ := hW
  have hA : DataW.TrodAll enc Tryz.prog W 0 (fun _ => true) true Tryz.f7.params.toList args.toList ds p := hA0
  rw [Tryz.params7] at hA hval
  obtain ⟨v0, vs0, d0, ds0, p0, q0, hargs, rfl, rfl, h0, r0⟩ := trodAll_cons hA
  obtain ⟨v1, vs1, d1, ds1, p1, q1, rfl, rfl, rfl, h1, r1⟩ := trodAll_cons r0
  obtain ⟨v2, vs2, d2, ds2, p2, q2, rfl, rfl, rfl, h2, r2⟩ := trodAll_cons r1
  obtain ⟨v3, vs3, d3, ds3, p3, q3, rfl, rfl, rfl, h3, r3⟩ := trodAll_cons r2
  obtain ⟨rfl, rfl, rfl⟩ := trodAll_nil r3
  obtain rfl : args = #[v0, v1, v2, v3] := by cases args; simp_all
  obtain ⟨sb0, ao0, xs0, ca0, bo0, ys0, cb0, rfl, hr0, hq0⟩ := ratio_open (hval 0 25 v0 rfl rfl) h0
  obtain ⟨d1, c1, a1, rfl, bq1⟩ := qty_open (hval 1 39 v1 rfl rfl) h1
  obtain ⟨d2, c2, a2, rfl, bq2⟩ := qty_open (hval 2 39 v2 rfl rfl) h2
  obtain ⟨ao3, zs3, cap3, rfl, hr3⟩ := ints_open8 (hval 3 40 v3 rfl rfl) h3
  refine (QuantityFactors_any sb0 ao0 bo0 ca0 cb0 xs0 ys0 d1 c1 a1 d2 c2 a2 ao3 zs3 cap3 W hr0 hq0 bq1 bq2 hr3 (env_of (tab_of5 hL) hsh)).mono ?_
  rintro e W' ⟨rfl, hb⟩
  exact ⟨_, rfl, law_post hW' rfl rfl rfl (by rw [Tryz.params7]; exact facts.readable_of8 (by decide)) hb⟩

theorem laid_met (os : Os) : laidMet Tryz.prog Rows.quantityFactorsRow.laid ((laidWorld5 os).forCall (fun _ _ => 0) ⟨#[], #[.agg #[.bool false, .slice none 0 0, .slice none 0 0], .agg #[.int .i64 0, .int .i64 0, .int .i64 0], .agg #[.int .i64 0, .int .i64 0, .int .i64 0], .slice none 0 0], []⟩).memory :=
  laidMet_of_run' 8 (by kernel_rfl) (by kernel_rfl)
theorem reads (os : Os) {H : Type} (enc : TypeId × Value → H) : ∃ places, DataW.whole enc Tryz.prog ((laidWorld5 os).forCall (fun _ _ => 0) ⟨#[], #[.agg #[.bool false, .slice none 0 0, .slice none 0 0], .agg #[.int .i64 0, .int .i64 0, .int .i64 0], .agg #[.int .i64 0, .int .i64 0, .int .i64 0], .slice none 0 0], []⟩).memory Tryz.f7.params.toList Rows.quantityFactorsSpec.vars false #[Value.agg #[.bool false, .slice none 0 0, .slice none 0 0], .agg #[.int .i64 0, .int .i64 0, .int .i64 0], .agg #[.int .i64 0, .int .i64 0, .int .i64 0], .slice none 0 0].toList 8 = some ([.agg [.lit (.bool false), .nil, .nil], .agg [.lit (.int .i64 0), .lit (.int .i64 0), .lit (.int .i64 0)], .agg [.lit (.int .i64 0), .lit (.int .i64 0), .lit (.int .i64 0)], .nil], [], places) :=
  ⟨[], by kernel_rfl⟩

set_option maxRecDepth 100000 in
set_option maxHeartbeats 2000000 in
theorem lifted (os : Os) (started : os.Started) (H : Type) (enc : TypeId × Value → H) (F : Stop.Interp) :
    ReturnsInHanded {} Tryz.checked os 7 .any ((OpenSpec.ofChange Rows.quantityFactorsSpec).preRow enc Tryz.prog Tryz.f7 Rows.quantityFactorsRow.domain false Rows.quantityFactorsRow.laid) (((OpenSpec.ofChange Rows.quantityFactorsSpec).at F).post enc Tryz.prog Tryz.f7 false true false false) := by
  obtain ⟨places, hx⟩ := reads os enc
  refine returnsInHanded_of_row (C := Tryz.checked) (s := OpenSpec.ofChange Rows.quantityFactorsSpec) fr_own started (by kernel_rfl) Tryz.func7
    (witness_row_at (enc := enc) (C := Tryz.checked) false (laidWorld5 os) #[.agg #[.bool false, .slice none 0 0, .slice none 0 0], .agg #[.int .i64 0, .int .i64 0, .int .i64 0], .agg #[.int .i64 0, .int .i64 0, .int .i64 0], .slice none 0 0] rfl (by kernel_rfl) (by kernel_rfl) (by kernel_rfl)
      (OpenSpec.preRow_of_cond 8 hx (by kernel_rfl) (fun k hk => by cases hk) (by kernel_rfl) (laid_met os))) ?_
  intro W base args ds gs before hval hW _ _ _ hL hsh _
  exact contract H enc W base args ds gs before hval hW hL hsh

set_option maxHeartbeats 8000000 in
theorem closed : joinedFacts Tryz.prog 7 Tryz.f7 Rows.quantityFactorsSpec Rows.quantityFactorsRow = true := by
  unfold joinedFacts
  repeat' (with_reducible refine facts.and_mk ?_ ?_)
  all_goals first
    | (with_reducible exact facts.laidOut) | (with_reducible exact facts.rowed) | (with_reducible exact facts.stops) | (with_reducible exact facts.stopKnobs) | (with_reducible exact facts.stopsHeard) | (with_reducible exact facts.mayEnter)
    | ((with_reducible refine facts.plainKeys_of ?_); rfl) | ((with_reducible refine facts.lifted_of ?_); rfl) | ((with_reducible refine facts.make_of ?_); rfl)
    | (as_aux_lemma => kernel_rfl)

set_option maxRecDepth 100000 in
theorem said : Rows.QuantityFactorsSaid :=
  OpenClaim.holds_of_cond 7 Tryz.f7 rfl rfl rfl rfl rfl rfl rfl ⟨rfl, rfl, rfl, rfl, rfl⟩ rfl rfl rfl rfl rfl (by kernel_rfl) Tryz.func7 closed
    (of_decide_eq_true (by kernel_rfl)) (by unfold Func.isWrapper; first | (rw [if_pos (by decide +kernel)]; kernel_rfl) | (rw [if_neg (by decide +kernel)]; exact ⟨rfl, rfl⟩))
    (fun os started H enc _ F => by rw [OpenClaim.pre_eq_preRow]; exact lifted os started H enc F)

theorem plain (f : FuncId) (fn : Func) (hf : Tryz.pinned.checked.prog.funcNamed "priceoffice/priceofficelaw08.QuantityFactors" = some f) (hfn : Tryz.pinned.checked.prog.funcs[f]? = some fn) :
    Rows.rationalApartCard.stood.looks = Tryz.pinned.checked.prog.looks [] ∧ ∀ (j : Nat) t, fn.params[j]? = some t → Tryz.pinned.checked.prog.wantsStandIn t = false := by
  obtain rfl : f = 7 := Option.some.inj ((show Tryz.prog.funcNamed "priceoffice/priceofficelaw08.QuantityFactors" = some 7 by kernel_rfl).symm.trans hf) |>.symm
  obtain rfl : fn = Tryz.f7 := (Option.some.inj (Tryz.func7.symm.trans hfn)).symm
  refine ⟨facts.looks, fun j t ht => ?_⟩
  rw [Tryz.params7] at ht
  exact facts.standIn_of8 (by decide) j t ht

theorem card : Rows.QuantityFactorsCardSaid :=
  Claim7.holds_tied_plain_at .later [] _ _ _ _ said (fun _ h => by cases h) (by kernel_rfl) (fun _ h => by cases h) quantityFactors_row_tie rfl ⟨rfl, rfl⟩ facts.mainIs rfl plain (by kernel_rfl)
end Go.Proofs.YtobiepkhommeaaaGreatDoor.lawQtyFactors
