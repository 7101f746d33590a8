import Derived.Test.YtjijnngblhddkaaGreatDoorPar3
import Derived.Test.YtjijnngblhddkaaGreatDoorRats2
import Derived.Test.YtjijnngblhddkaaGreatDoorAwake2
/- RationalReads: the walk. -/
namespace Go.Proofs.YtjijnngblhddkaaGreatDoor
open Go.RowKit

set_option maxHeartbeats 8000000 in
set_option maxRecDepth 100000 in
theorem RationalReads_any (s : ByteArray) (w : World) (hs : s.size ≤ 9223372036854775807) (htab : Tab w) (hev : ErrV w) :
    Calls Tryz.prog 4 #[.string s] w fun e w' => e = .returned (.bool true) ∧ Below w.heap.size w w' := by
  obtain ⟨q, hq⟩ : ∃ q : Nat, min ((s.size : Nat) : Int) 100 = (q : Int) := ⟨(min ((s.size : Nat) : Int) 100).toNat, by omega⟩
  have hqs : q ≤ s.size := by omega
  have hqI : (q : Int) ≤ (s.size : Int) := by omega
  obtain ⟨c, hc⟩ : ∃ c : Prop, c = ¬ pOk (pneg (s.extract 0 q).data.toList) (pbody (s.extract 0 q).data.toList) := ⟨_, rfl⟩
  obtain ⟨x, hx⟩ : ∃ x, x = pqv (s.extract 0 q).data.toList := ⟨_, rfl⟩
  have hsz : (s.extract 0 q).size ≤ 1000 := by rw [ByteArray.size_extract]; omega
  have P1 : Hid (∀ w', Below w.heap.size w w' → Calls Tryz.prog 10 #[.string (s.extract 0 q)] w' (FormRes c x 512 w')) := fun w' hb => by
    rw [hc, hx]; exact qParse_v _ w' hsz (hev.below hb)
  have P2 : Hid (∀ w', Calls Tryz.prog 17 #[.string (s.extract 0 q)] w' (FormRes c x 512 w')) := fun w' => by
    rw [hc, hx]; exact rqParse_v _ w' hsz
  have HT := Lib.hid htab
  clear hev hc hx hsz htab
  go_enter Tryz.func4, Tryz.ntmps4
  go_wp2_with fail
  refine (P1.out _ (Below.refl _ _)).mono ?_; rintro e W1 ⟨s1, a1, n1, c1, o1, m1, d1, e1, rfl, cq1, he1, b1⟩
  have n1x := below_new W1 (.cells #[.bool s1, .slice a1 n1 c1, .slice o1 m1 d1] 25)
  have z1 := heap_alloc_new W1 (.cells #[.bool s1, .slice a1 n1 c1, .slice o1 m1 d1] 25)
  have B2 := b1.trans (n1x.mono b1.size)
  have CQ1 := Lib.hid (cq1.below n1x)
  obtain ⟨W2, hW2⟩ : ∃ W2, W2 = W1.alloc (.cells #[.bool s1, .slice a1 n1 c1, .slice o1 m1 d1] 25) := ⟨_, rfl⟩
  unfold Hid at CQ1
  rw [← hW2] at z1 B2 CQ1
  have CQ1 := Lib.hid CQ1
  have hs2 : W2.heap.size = W1.heap.size + 1 := by rw [hW2]; exact World.size_alloc _ _
  have HS2 := Lib.hid hs2
  clear cq1 n1x b1 hs2
  go_wp2_with fail
  rw [← hW2]
  clear hW2
  refine (P2.out _).mono ?_; rintro e W3 ⟨s3, a3, n3, c3, o3, m3, d3, e3, rfl, cq3, he3, b3⟩
  have n3x := below_new W3 (.cells #[.bool s3, .slice a3 n3 c3, .slice o3 m3 d3] 25)
  have z3 := heap_alloc_new W3 (.cells #[.bool s3, .slice a3 n3 c3, .slice o3 m3 d3] 25)
  have hlt1 : W1.heap.size < W2.heap.size := by have := HS2.out; omega
  have z1' := ((b3.trans (n3x.mono b3.size)).block W1.heap.size hlt1).trans z1
  have B4 := B2.trans ((b3.trans (n3x.mono b3.size)).mono B2.size)
  have K1 := CQ1.out.below (b3.trans (n3x.mono b3.size))
  have K3 := cq3.below n3x
  obtain ⟨x0, x1, x2, _⟩ := at_block z1'
  obtain ⟨y0, y1, y2, _⟩ := at_block z3
  have hee : e1 = e3 := by
    rcases he1 with ⟨h1, h2⟩ | ⟨h1, h2⟩ <;> rcases he3 with ⟨h3, h4⟩ | ⟨h3, h4⟩
    · rw [h2, h4]
    · exact absurd h1 h3
    · exact absurd h3 h1
    · rw [h2, h4]
  subst hee
  have SM := Lib.hid (Same_q K1 K3 rfl)
  have HB4 := Lib.hid B4
  have AW : Hid (∀ w', Below (W3.alloc (.cells #[.bool s3, .slice a3 n3 c3, .slice o3 m3 d3] 25)).heap.size (W3.alloc (.cells #[.bool s3, .slice a3 n3 c3, .slice o3 m3 d3] 25)) w' → Calls Tryz.prog 14 #[] w' fun e w2 => e = .returned (.bool true) ∧ Below w'.heap.size w' w2) := fun w' hb => awake2_any w' ((HT.out.below B4).below hb)
  clear he1 he3 z1 z1' z3 B2 B4 K1 K3 cq3 n3x b3 hlt1
  go_wp2_with fail
  refine SM.out.mono ?_; rintro e W5 ⟨rfl, b5⟩
  have HB5 := Lib.hid (HB4.out.trans (b5.mono HB4.out.size))
  have AW5 := Lib.hid (AW.out W5 b5)
  clear b5 x0 x1 x2 y0 y1 y2
  go_wp2_with fail
  refine AW5.out.mono ?_; rintro e W6 ⟨rfl, b6⟩
  have HB6 := Lib.hid (HB5.out.trans (b6.mono HB5.out.size))
  clear b6
  go_wp2_with fail
  go_ret
  exact ⟨rfl, HB6.out⟩
end Go.Proofs.YtjijnngblhddkaaGreatDoor
