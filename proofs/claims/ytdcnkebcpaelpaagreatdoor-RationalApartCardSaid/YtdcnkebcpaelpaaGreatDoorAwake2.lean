import Derived.Test.YtdcnkebcpaelpaaGreatDoorRat8
/- The sanity check of layer 2's laws holds. -/
namespace Go.Proofs.YtdcnkebcpaelpaaGreatDoor
open Go.RowKit

theorem Format_num {ao : Option Addr} {n cap N : Nat} {w : World} (h : Num w ao n cap N) (htab : Tab w) :
    Calls Tryz.prog 56 #[.slice ao n cap] w fun e w' => e = .returned (.string ⟨(Lib.decDigits N).toArray⟩) ∧ Below w.heap.size w w' := by
  obtain ⟨xs, rfl, h1, rfl, h2⟩ := h
  exact Format_any ao cap xs w h1 (by omega) htab
theorem scaled_qi (s : Bool) (ao bo : Option Addr) (n ca m cb k j : Nat) (q : Rat) (w : World) (h : RQ w s ao n ca bo m cb q k) (hk : k ≤ 100000) (hj : j ≤ 60) (i : Int) (hi : i = (j : Int)) (R : Nat) (hR : ru (rn q) q.den (10 ^ j) = R) :
    Calls Tryz.prog 55 #[.agg #[.bool s, .slice ao n ca, .slice bo m cb], .int .i64 i] w fun e w' => Makes R w e w' ∧ Sm R (k + 300) := by
  subst hi; subst hR; exact scaled_q s ao bo n ca m cb k j q w h hk hj
set_option maxHeartbeats 400000 in
set_option maxRecDepth 100000 in
theorem decimals_num (i : Int) (j : Nat) (hi : min (max i 0) 12 = (j : Int)) (w : World) : Calls Tryz.prog 54 #[.int .i64 i] w fun e w' => e = .returned (.int .i64 (j : Int)) ∧ w = w' := by
  go_enter Tryz.func54, Tryz.ntmps54
  go_wp2_with fail
  go_ret
  exact ⟨rfl, rfl⟩
theorem dec_833 : Lib.decDigits 833 = [56, 51, 51] := by
  repeat (rw [dec_big (by omega)])
  rw [dec_small (by omega)]
  rfl
set_option maxHeartbeats 2000000 in
set_option maxRecDepth 100000 in
theorem Format_awake (ao bo : Option Addr) (n ca m cb k : Nat) (q : Rat) (w : World) (h : RQ w false ao n ca bo m cb q k) (hk : k ≤ 100000) (hq : ru (rn q) q.den (10 ^ 3) = 833) (htab : Tab w) :
    Calls Tryz.prog 36 #[.agg #[.bool false, .slice ao n ca, .slice bo m cb], .int .i64 3] w fun e w' => e = .returned (.string ⟨#[48, 46, 56, 51, 51]⟩) ∧ Below w.heap.size w w' := by
  have B0 := below_new w (.cells #[.bool false, .slice ao n ca, .slice bo m cb] 25)
  have h1 := h.below B0
  have hs1 : (w.alloc (.cells #[.bool false, .slice ao n ca, .slice bo m cb] 25)).heap.size = w.heap.size + 1 := World.size_alloc _ _
  have BX : Below (w.heap.size + 1) (w.alloc (.cells #[.bool false, .slice ao n ca, .slice bo m cb] 25)) (w.alloc (.cells #[.bool false, .slice ao n ca, .slice bo m cb] 25)) := Below.refl _ _
  have t1 := htab.below B0
  have SC : Hid (∀ w', RQ w' false ao n ca bo m cb q k → Calls Tryz.prog 55 #[.agg #[.bool false, .slice ao n ca, .slice bo m cb], .int .i64 3] w' fun e w'' => Makes 833 w' e w'' ∧ Sm 833 (k + 300)) := fun w' h' => scaled_qi false ao bo n ca m cb k 3 q w' h' hk (by omega) 3 rfl 833 hq
  obtain ⟨R, hR⟩ : ∃ R : Nat, R = 833 := ⟨_, rfl⟩
  rw [← hR] at SC
  have HR := Lib.hid hR
  clear hq h hR
  go_enter Tryz.func36, Tryz.ntmps36
  go_wp2_with fail
  refine (decimals_num 3 3 (by omega) _).mono ?_; rintro e w' ⟨rfl, rfl⟩
  go_wp2_with fail
  refine (SC.out _ h1).mono ?_; rintro e w2 ⟨⟨a2, c2, rfl, f2, b2⟩, sR⟩
  rw [hs1] at b2
  replace BX := BX.trans b2
  have t2 := t1.below (hs1.symm ▸ b2)
  go_wp2_with fail
  refine (Format_num (Num.of_fr f2 sR) t2).mono ?_; rintro e w3 ⟨rfl, b3⟩
  rw [show Lib.decDigits R = [56, 51, 51] by rw [HR.out]; exact dec_833]
  have hz := BX.size
  rw [hs1] at hz
  replace BX := BX.trans (b3.mono hz)
  obtain ⟨e0, e1, e2⟩ := boxC BX
  have DR := Lib.hid (show ¬ (0 : Int) = ((dig R).length : Nat) by have := dig_length_pos (show 0 < R by have := HR.out; omega); omega)
  clear e1 e2 f2
  go_wp2_with fail
  refine (repeat_any 1 _ (by omega) _ (by decide)).mono ?_; rintro e w4 ⟨rfl, b4⟩
  rw [show (List.replicate 1 (48 : UInt8)).toArray = #[48] from rfl]
  have hz3 := BX.size
  rw [hs1] at hz3
  replace BX := BX.trans (b4.mono hz3)
  obtain ⟨g0, _⟩ := boxC BX
  clear e0
  go_wp2_with fail
  rw [show (({ data := #[48] } : ByteArray) ++ { data := #[56, 51, 51] }) = { data := #[48, 56, 51, 51] } from rfl]
  go_quiet (fail)
  go_wp2_with fail
  go_ret
  exact ⟨by rfl, below_drewN (B0.trans (BX.mono (by omega))) nq⟩

theorem awake_units : ru (rn (rq false 1 2 + rq false 1 3)) (rq false 1 2 + rq false 1 3).den (10 ^ 3) = 833 := by decide +kernel
theorem awake_sign : rs (rq false 1 2 + rq false 1 3) = false := by decide +kernel
theorem Fraction_pos (n d : Nat) (hn : n ≤ 1000000) (hd : d ≤ 1000000) (hp : 0 < d) (i j : Int) (hi : i = n) (hj : j = d) (w : World) : Calls Tryz.prog 35 #[.int .i64 i, .int .i64 j] w (MakesE (rq false n d) 2 w) := by
  subst hi; subst hj
  have h := Fraction_q (n : Int) (d : Int) (by omega) (by omega) (by omega) (by omega) (by omega) w
  rw [decide_eq_false (show ¬ (n : Int) < 0 by omega), decide_eq_false (show ¬ (d : Int) < 0 by omega), Int.natAbs_natCast, Int.natAbs_natCast] at h
  exact h

set_option maxHeartbeats 4000000 in
set_option maxRecDepth 100000 in
theorem awake2_any (w : World) (htab : Tab w) : Calls Tryz.prog 15 #[] w fun e w' => e = .returned (.bool true) ∧ Below w.heap.size w w' := by
  have U := Lib.hid awake_units
  have S := Lib.hid awake_sign
  obtain ⟨q1, hq1⟩ : ∃ q, q = rq false 1 2 := ⟨_, rfl⟩
  obtain ⟨q2, hq2⟩ : ∃ q, q = rq false 1 3 := ⟨_, rfl⟩
  have F1 : Hid (∀ w, Calls Tryz.prog 35 #[.int .i64 1, .int .i64 2] w (MakesE q1 2 w)) := fun w => by rw [hq1]; exact Fraction_pos 1 2 (by omega) (by omega) (by omega) 1 2 rfl rfl w
  have F2 : Hid (∀ w, Calls Tryz.prog 35 #[.int .i64 1, .int .i64 3] w (MakesE q2 2 w)) := fun w => by rw [hq2]; exact Fraction_pos 1 3 (by omega) (by omega) (by omega) 1 3 rfl rfl w
  rw [← hq1, ← hq2] at U S
  clear hq1 hq2
  go_enter Tryz.func15, Tryz.ntmps15
  go_wp2_with fail
  refine (F1.out _).mono ?_; rintro e w1 ⟨s1, a1, n1, c1, o1, m1, d1, rfl, cq1, b1⟩
  have B1 := b1.trans ((below_new w1 (.cells #[.bool s1, .slice a1 n1 c1, .slice o1 m1 d1] 25)).mono b1.size)
  have cq1' := cq1.below (below_new w1 (.cells #[.bool s1, .slice a1 n1 c1, .slice o1 m1 d1] 25))
  have BX : Below (w1.heap.size + 1) (w1.alloc (.cells #[.bool s1, .slice a1 n1 c1, .slice o1 m1 d1] 25)) (w1.alloc (.cells #[.bool s1, .slice a1 n1 c1, .slice o1 m1 d1] 25)) := Below.refl _ _
  have hs1 : (w1.alloc (.cells #[.bool s1, .slice a1 n1 c1, .slice o1 m1 d1] 25)).heap.size = w1.heap.size + 1 := World.size_alloc _ _
  go_wp2_with fail
  refine (F2.out _).mono ?_; rintro e w2 ⟨s2, a2, n2, c2, o2, m2, d2, rfl, cq2, b2⟩
  have cq1'' := cq1'.below b2
  have B2 := B1.trans (b2.mono B1.size)
  have b2' := b2
  rw [hs1] at b2'
  replace BX := BX.trans b2'
  have n2x := below_new w2 (.cells #[.bool s2, .slice a2 n2 c2, .slice o2 m2 d2] 25)
  have B3 := B2.trans (n2x.mono B2.size)
  have r1 := (cq1''.below n2x).rq
  have r2 := (cq2.below n2x).rq
  have hz2 := BX.size
  rw [hs1] at hz2
  obtain ⟨e0, e1, e2⟩ := boxC (BX.trans (n2x.mono hz2))
  have t3 := htab.below B3
  clear cq1 cq2 cq1' cq1'' b1 b2 b2' B1 B2 hs1
  go_wp2_with fail
  refine (Add_q s1 s2 a1 o1 a2 o2 n1 c1 m1 d1 n2 c2 m2 d2 2 q1 q2 _ r1 r2 (by omega)).mono ?_; rintro e w4 ⟨s9, a9, n9, c9, o9, m9, d9, rfl, hcq, b9⟩
  obtain rfl : s9 = false := by rw [hcq.1]; exact S.out
  have t4 := t3.below b9
  have B4 := B3.trans (b9.mono B3.size)
  go_wp2_with fail
  refine (Format_awake a9 o9 n9 c9 m9 d9 _ _ _ hcq.rq (by omega) U.out t4).mono ?_; rintro e w5 ⟨rfl, b10⟩
  go_wp2_with fail
  go_ret
  exact ⟨rfl, B4.trans (b10.mono B4.size)⟩
end Go.Proofs.YtdcnkebcpaelpaaGreatDoor
