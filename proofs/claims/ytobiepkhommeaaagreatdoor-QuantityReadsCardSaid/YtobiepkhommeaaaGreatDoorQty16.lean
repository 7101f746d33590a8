import Derived.Test.YtobiepkhommeaaaGreatDoorTapes
/- Quantities: a text of a tape that is nearly a quantity. -/
namespace Go.Proofs.YtobiepkhommeaaaGreatDoor
open Go.RowKit Go.Sort C6

theorem rowS {w : World} {g i : Nat} {cs : Array Value} {t : TypeId} {u : ByteArray} (h : w.heap[g]? = some (.cells cs t (0, 0))) (hu : cs[i]? = some (.string u)) : w.cell? ⟨g, i, none⟩ = some (.string u) := by
  simp [World.cell?, h, hu]
theorem at_text0 (r : Nat) (hr : r < 12) : ∃ u : ByteArray, (#[.string ⟨#[49]⟩, .string ⟨#[53, 48, 48]⟩, .string ⟨#[49, 46, 53]⟩, .string ⟨#[48, 46, 48, 48, 49]⟩, .string ⟨#[48, 46, 48, 48, 48, 53]⟩, .string ⟨#[51, 51]⟩, .string ⟨#[48]⟩, .string ⟨#[45, 49]⟩, .string ⟨#[49, 46, 53, 48]⟩, .string ⟨#[48, 48, 55]⟩, .string ⟨#[49, 48, 57, 57, 53, 49, 49, 54, 50, 55, 55, 55, 54]⟩, .string ⟨#[50, 48, 48, 48, 48, 48, 48]⟩] : Array Value)[r]? = some (.string u) ∧ u.size ≤ 13 := by
  have : r = 0 ∨ r = 1 ∨ r = 2 ∨ r = 3 ∨ r = 4 ∨ r = 5 ∨ r = 6 ∨ r = 7 ∨ r = 8 ∨ r = 9 ∨ r = 10 ∨ r = 11 := by omega
  rcases this with rfl | rfl | rfl | rfl | rfl | rfl | rfl | rfl | rfl | rfl | rfl | rfl <;> exact ⟨_, rfl, by decide⟩
theorem at_text1 (r : Nat) (hr : r < 12) : ∃ u : ByteArray, (#[.string ⟨#[109, 103]⟩, .string ⟨#[103]⟩, .string ⟨#[107, 103]⟩, .string ⟨#[109, 108]⟩, .string ⟨#[99, 108]⟩, .string ⟨#[108]⟩, .string ⟨#[109, 109]⟩, .string ⟨#[99, 109]⟩, .string ⟨#[109]⟩, .string ⟨#[112, 99]⟩, .string ⟨#[116]⟩, .string ⟨#[]⟩] : Array Value)[r]? = some (.string u) ∧ u.size ≤ 2 := by
  have : r = 0 ∨ r = 1 ∨ r = 2 ∨ r = 3 ∨ r = 4 ∨ r = 5 ∨ r = 6 ∨ r = 7 ∨ r = 8 ∨ r = 9 ∨ r = 10 ∨ r = 11 := by omega
  rcases this with rfl | rfl | rfl | rfl | rfl | rfl | rfl | rfl | rfl | rfl | rfl | rfl <;> exact ⟨_, rfl, by decide⟩
theorem at_text2 (r : Nat) (hr : r < 9) : ∃ u : ByteArray, (#[.string ⟨#[]⟩, .string ⟨#[]⟩, .string ⟨#[50, 32, 120, 32]⟩, .string ⟨#[49, 48, 48, 32, 120, 32]⟩, .string ⟨#[49, 48, 49, 32, 120, 32]⟩, .string ⟨#[49, 32, 120, 32]⟩, .string ⟨#[48, 54, 32, 120, 32]⟩, .string ⟨#[120, 32]⟩, .string ⟨#[49, 50, 32, 120]⟩] : Array Value)[r]? = some (.string u) ∧ u.size ≤ 6 := by
  have : r = 0 ∨ r = 1 ∨ r = 2 ∨ r = 3 ∨ r = 4 ∨ r = 5 ∨ r = 6 ∨ r = 7 ∨ r = 8 := by omega
  rcases this with rfl | rfl | rfl | rfl | rfl | rfl | rfl | rfl | rfl <;> exact ⟨_, rfl, by decide⟩
theorem at_text3 (r : Nat) (hr : r < 5) : ∃ u : ByteArray, (#[.string ⟨#[32]⟩, .string ⟨#[32]⟩, .string ⟨#[32]⟩, .string ⟨#[]⟩, .string ⟨#[32, 32]⟩] : Array Value)[r]? = some (.string u) ∧ u.size ≤ 2 := by
  have : r = 0 ∨ r = 1 ∨ r = 2 ∨ r = 3 ∨ r = 4 := by omega
  rcases this with rfl | rfl | rfl | rfl | rfl <;> exact ⟨_, rfl, by decide⟩
def TextPost (w : World) (B : Nat) (e : Ending) (w' : World) : Prop := ∃ s : ByteArray, e = .returned (.string s) ∧ s.size ≤ 60 ∧ w.grownBy w' (some B)

set_option maxHeartbeats 16000000 in
set_option maxRecDepth 100000 in
theorem text_v (B : Nat) (ao : Option Addr) (cap : Nat) (ts : List Int) (i : Nat) (w0 : World) (hb : Tap w0 B ao ts.length cap i) (ht : RdZ w0 ao cap ts) (htB : 0 < (intz ts).length → ∀ b o, ao = some ⟨b, o, none⟩ → b < B) (hi : i ≤ 900) :
    Calls Tryz.prog 29 #[.pointer (some ⟨B, 0, none⟩)] w0 (TextPost w0 B) := by
  have HT0 := Lib.hid hb
  have HR0 := Lib.hid ht
  have HTB := Lib.hid htB
  have HG0 := Lib.hid (gb_drewN w0 0 (some B))
  unfold Hid at HG0
  rw [show w0.drewN 0 = w0 from rfl] at HG0
  have HG0 := Lib.hid HG0
  clear hb ht htB
  obtain ⟨W0, hW0⟩ : ∃ W, W = w0.alloc (.cells #[.string ⟨#[49]⟩, .string ⟨#[53, 48, 48]⟩, .string ⟨#[49, 46, 53]⟩, .string ⟨#[48, 46, 48, 48, 49]⟩, .string ⟨#[48, 46, 48, 48, 48, 53]⟩, .string ⟨#[51, 51]⟩, .string ⟨#[48]⟩, .string ⟨#[45, 49]⟩, .string ⟨#[49, 46, 53, 48]⟩, .string ⟨#[48, 48, 55]⟩, .string ⟨#[49, 48, 57, 57, 53, 49, 49, 54, 50, 55, 55, 55, 54]⟩, .string ⟨#[50, 48, 48, 48, 48, 48, 48]⟩] 9) := ⟨_, rfl⟩
  have bA0 : Below w0.heap.size w0 W0 := by rw [hW0]; exact below_new _ _
  have gA0 := below_gb bA0 (some B)
  have yA0 : W0.heap[w0.heap.size]? = some (.cells #[.string ⟨#[49]⟩, .string ⟨#[53, 48, 48]⟩, .string ⟨#[49, 46, 53]⟩, .string ⟨#[48, 46, 48, 48, 49]⟩, .string ⟨#[48, 46, 48, 48, 48, 53]⟩, .string ⟨#[51, 51]⟩, .string ⟨#[48]⟩, .string ⟨#[45, 49]⟩, .string ⟨#[49, 46, 53, 48]⟩, .string ⟨#[48, 48, 55]⟩, .string ⟨#[49, 48, 57, 57, 53, 49, 49, 54, 50, 55, 55, 55, 54]⟩, .string ⟨#[50, 48, 48, 48, 48, 48, 48]⟩] 9 (0, 0)) := by rw [hW0]; exact heap_alloc_new _ _
  have HTa0 := Lib.hid (HT0.out.keep bA0)
  have HRa0 := Lib.hid (rd_gb HR0.out HTB.out (Nat.le_of_lt HT0.out.lt) gA0)
  have HGa0 := Lib.hid (gb_trans HG0.out gA0)
  have HY0 := Lib.hid yA0
  have hlt0 := HT0.out.lt
  obtain ⟨gr0, hgr0⟩ : ∃ g, g = w0.heap.size := ⟨_, rfl⟩
  unfold Hid at HY0
  rw [← hgr0] at HY0 hlt0
  have HY0 := Lib.hid HY0
  clear bA0 gA0 yA0
  go_enter Tryz.func29, Tryz.ntmps29
  go_wp2_with fail
  rw [← hW0, ← hgr0]
  clear hW0 hgr0
  refine (Next_v B ao cap ts (i) 12 _ HTa0.out HRa0.out (by omega) (by omega) (by omega) 12 rfl).mono ?_; rintro e w1 ⟨r0, rfl, hr0, g0, z0, t0⟩
  have y0 := (g0.block _ (Array.getElem?_eq_some_iff.1 HY0.out).1 (by simp; omega)).trans HY0.out
  obtain ⟨u0, hu0, hus0⟩ := at_text0 r0 hr0
  have hc0 : w1.cell? ⟨gr0, r0, none⟩ = some (.string u0) := rowS y0 hu0
  have hri0 : (r0 : Int) < 12 := by omega
  have HT1 := Lib.hid t0
  have HR1 := Lib.hid (rd_gb HRa0.out HTB.out (Nat.le_of_lt HTa0.out.lt) g0)
  have HG1 := Lib.hid (gb_trans HGa0.out g0)
  obtain ⟨l0, hl0⟩ : ∃ n, n = u0.size := ⟨_, rfl⟩
  have hs0 : u0.size = l0 := hl0.symm
  rw [← hl0] at hus0
  clear g0 z0 t0 y0 hu0 hl0 hlt0
  obtain ⟨W1, hW1⟩ : ∃ W, W = w1.alloc (.cells #[.string ⟨#[109, 103]⟩, .string ⟨#[103]⟩, .string ⟨#[107, 103]⟩, .string ⟨#[109, 108]⟩, .string ⟨#[99, 108]⟩, .string ⟨#[108]⟩, .string ⟨#[109, 109]⟩, .string ⟨#[99, 109]⟩, .string ⟨#[109]⟩, .string ⟨#[112, 99]⟩, .string ⟨#[116]⟩, .string ⟨#[]⟩] 9) := ⟨_, rfl⟩
  have bA1 : Below w1.heap.size w1 W1 := by rw [hW1]; exact below_new _ _
  have gA1 := below_gb bA1 (some B)
  have yA1 : W1.heap[w1.heap.size]? = some (.cells #[.string ⟨#[109, 103]⟩, .string ⟨#[103]⟩, .string ⟨#[107, 103]⟩, .string ⟨#[109, 108]⟩, .string ⟨#[99, 108]⟩, .string ⟨#[108]⟩, .string ⟨#[109, 109]⟩, .string ⟨#[99, 109]⟩, .string ⟨#[109]⟩, .string ⟨#[112, 99]⟩, .string ⟨#[116]⟩, .string ⟨#[]⟩] 9 (0, 0)) := by rw [hW1]; exact heap_alloc_new _ _
  have HTa1 := Lib.hid (HT1.out.keep bA1)
  have HRa1 := Lib.hid (rd_gb HR1.out HTB.out (Nat.le_of_lt HT1.out.lt) gA1)
  have HGa1 := Lib.hid (gb_trans HG1.out gA1)
  have HY1 := Lib.hid yA1
  have hlt1 := HT1.out.lt
  obtain ⟨gr1, hgr1⟩ : ∃ g, g = w1.heap.size := ⟨_, rfl⟩
  unfold Hid at HY1
  rw [← hgr1] at HY1 hlt1
  have HY1 := Lib.hid HY1
  clear bA1 gA1 yA1
  skip
  go_wp2_with fail
  rw [← hW1, ← hgr1]
  clear hW1 hgr1
  refine (Next_v B ao cap ts (i + 1) 12 _ HTa1.out HRa1.out (by omega) (by omega) (by omega) 12 rfl).mono ?_; rintro e w2 ⟨r1, rfl, hr1, g1, z1, t1⟩
  have y1 := (g1.block _ (Array.getElem?_eq_some_iff.1 HY1.out).1 (by simp; omega)).trans HY1.out
  obtain ⟨u1, hu1, hus1⟩ := at_text1 r1 hr1
  have hc1 : w2.cell? ⟨gr1, r1, none⟩ = some (.string u1) := rowS y1 hu1
  have hri1 : (r1 : Int) < 12 := by omega
  have HT2 := Lib.hid t1
  have HR2 := Lib.hid (rd_gb HRa1.out HTB.out (Nat.le_of_lt HTa1.out.lt) g1)
  have HG2 := Lib.hid (gb_trans HGa1.out g1)
  obtain ⟨l1, hl1⟩ : ∃ n, n = u1.size := ⟨_, rfl⟩
  have hs1 : u1.size = l1 := hl1.symm
  rw [← hl1] at hus1
  clear g1 z1 t1 y1 hu1 hl1 hlt1
  obtain ⟨W2, hW2⟩ : ∃ W, W = w2.alloc (.cells #[.string ⟨#[]⟩, .string ⟨#[]⟩, .string ⟨#[50, 32, 120, 32]⟩, .string ⟨#[49, 48, 48, 32, 120, 32]⟩, .string ⟨#[49, 48, 49, 32, 120, 32]⟩, .string ⟨#[49, 32, 120, 32]⟩, .string ⟨#[48, 54, 32, 120, 32]⟩, .string ⟨#[120, 32]⟩, .string ⟨#[49, 50, 32, 120]⟩] 9) := ⟨_, rfl⟩
  have bA2 : Below w2.heap.size w2 W2 := by rw [hW2]; exact below_new _ _
  have gA2 := below_gb bA2 (some B)
  have yA2 : W2.heap[w2.heap.size]? = some (.cells #[.string ⟨#[]⟩, .string ⟨#[]⟩, .string ⟨#[50, 32, 120, 32]⟩, .string ⟨#[49, 48, 48, 32, 120, 32]⟩, .string ⟨#[49, 48, 49, 32, 120, 32]⟩, .string ⟨#[49, 32, 120, 32]⟩, .string ⟨#[48, 54, 32, 120, 32]⟩, .string ⟨#[120, 32]⟩, .string ⟨#[49, 50, 32, 120]⟩] 9 (0, 0)) := by rw [hW2]; exact heap_alloc_new _ _
  have HTa2 := Lib.hid (HT2.out.keep bA2)
  have HRa2 := Lib.hid (rd_gb HR2.out HTB.out (Nat.le_of_lt HT2.out.lt) gA2)
  have HGa2 := Lib.hid (gb_trans HG2.out gA2)
  have HY2 := Lib.hid yA2
  have hlt2 := HT2.out.lt
  obtain ⟨gr2, hgr2⟩ : ∃ g, g = w2.heap.size := ⟨_, rfl⟩
  unfold Hid at HY2
  rw [← hgr2] at HY2 hlt2
  have HY2 := Lib.hid HY2
  clear bA2 gA2 yA2
  skip
  go_wp2_with fail
  rw [← hW2, ← hgr2]
  clear hW2 hgr2
  refine (Next_v B ao cap ts (i + 1 + 1) 9 _ HTa2.out HRa2.out (by omega) (by omega) (by omega) 9 rfl).mono ?_; rintro e w3 ⟨r2, rfl, hr2, g2, z2, t2⟩
  have y2 := (g2.block _ (Array.getElem?_eq_some_iff.1 HY2.out).1 (by simp; omega)).trans HY2.out
  obtain ⟨u2, hu2, hus2⟩ := at_text2 r2 hr2
  have hc2 : w3.cell? ⟨gr2, r2, none⟩ = some (.string u2) := rowS y2 hu2
  have hri2 : (r2 : Int) < 9 := by omega
  have HT3 := Lib.hid t2
  have HR3 := Lib.hid (rd_gb HRa2.out HTB.out (Nat.le_of_lt HTa2.out.lt) g2)
  have HG3 := Lib.hid (gb_trans HGa2.out g2)
  obtain ⟨l2, hl2⟩ : ∃ n, n = u2.size := ⟨_, rfl⟩
  have hs2 : u2.size = l2 := hl2.symm
  rw [← hl2] at hus2
  clear g2 z2 t2 y2 hu2 hl2 hlt2
  have q1 : l2 + l0 ≤ 9223372036854775807 := by omega
  obtain ⟨W3, hW3⟩ : ∃ W, W = w3.alloc (.cells #[.string ⟨#[32]⟩, .string ⟨#[32]⟩, .string ⟨#[32]⟩, .string ⟨#[]⟩, .string ⟨#[32, 32]⟩] 9) := ⟨_, rfl⟩
  have bA3 : Below w3.heap.size w3 W3 := by rw [hW3]; exact below_new _ _
  have gA3 := below_gb bA3 (some B)
  have yA3 : W3.heap[w3.heap.size]? = some (.cells #[.string ⟨#[32]⟩, .string ⟨#[32]⟩, .string ⟨#[32]⟩, .string ⟨#[]⟩, .string ⟨#[32, 32]⟩] 9 (0, 0)) := by rw [hW3]; exact heap_alloc_new _ _
  have HTa3 := Lib.hid (HT3.out.keep bA3)
  have HRa3 := Lib.hid (rd_gb HR3.out HTB.out (Nat.le_of_lt HT3.out.lt) gA3)
  have HGa3 := Lib.hid (gb_trans HG3.out gA3)
  have HY3 := Lib.hid yA3
  have hlt3 := HT3.out.lt
  obtain ⟨gr3, hgr3⟩ : ∃ g, g = w3.heap.size := ⟨_, rfl⟩
  unfold Hid at HY3
  rw [← hgr3] at HY3 hlt3
  have HY3 := Lib.hid HY3
  clear bA3 gA3 yA3
  skip
  go_wp2_with fail
  rw [← hW3, ← hgr3]
  clear hW3 hgr3
  refine (Next_v B ao cap ts (i + 1 + 1 + 1) 5 _ HTa3.out HRa3.out (by omega) (by omega) (by omega) 5 rfl).mono ?_; rintro e w4 ⟨r3, rfl, hr3, g3, z3, t3⟩
  have y3 := (g3.block _ (Array.getElem?_eq_some_iff.1 HY3.out).1 (by simp; omega)).trans HY3.out
  obtain ⟨u3, hu3, hus3⟩ := at_text3 r3 hr3
  have hc3 : w4.cell? ⟨gr3, r3, none⟩ = some (.string u3) := rowS y3 hu3
  have hri3 : (r3 : Int) < 5 := by omega
  have HT4 := Lib.hid t3
  have HR4 := Lib.hid (rd_gb HRa3.out HTB.out (Nat.le_of_lt HTa3.out.lt) g3)
  have HG4 := Lib.hid (gb_trans HGa3.out g3)
  obtain ⟨l3, hl3⟩ : ∃ n, n = u3.size := ⟨_, rfl⟩
  have hs3 : u3.size = l3 := hl3.symm
  rw [← hl3] at hus3
  clear g3 z3 t3 y3 hu3 hl3 hlt3
  have q2 : l2 + l0 + l3 ≤ 9223372036854775807 := by omega
  have q3 : l2 + l0 + l3 + l1 ≤ 9223372036854775807 := by omega
  go_wp2_with fail
  go_ret
  refine ⟨u2 ++ u0 ++ u3 ++ u1, rfl, ?_, HG4.out⟩
  rw [ByteArray.size_append, ByteArray.size_append, ByteArray.size_append, hs0, hs1, hs2, hs3]
  omega
end Go.Proofs.YtobiepkhommeaaaGreatDoor
