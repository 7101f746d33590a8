import Derived.Test.YtdcnkebcpaelpaaGreatDoorRat5
/- Contracts of package rational and of its reference: signs; equality of results; the law's canonical. -/
namespace Go.Proofs.YtdcnkebcpaelpaaGreatDoor
open Go.RowKit

theorem ret_i64e {a b : Int} (h : a = b) : Ending.returned (.int .i64 a) = .returned (.int .i64 b) := by rw [h]
set_option maxHeartbeats 2000000 in
set_option maxRecDepth 100000 in
theorem Sign_q (s : Bool) (ao bo : Option Addr) (n ca m cb k : Nat) (q : Rat) (w : World) (h : RQ w s ao n ca bo m cb q k) :
    Calls Tryz.prog 17 #[.agg #[.bool s, .slice ao n ca, .slice bo m cb]] w fun e w' => e = .returned (.int .i64 (sgn q)) ∧ Below w.heap.size w w' := by
  obtain ⟨N, D, hn, _, _, _, hq, _⟩ := h
  have B0 := below_new w (.cells #[.bool s, .slice ao n ca, .slice bo m cb] 25)
  have hn1 := hn.below B0
  have hs := sgn_rq (s := s) (N := N) (dn_pos D)
  rw [hq] at hs
  obtain ⟨b, hb⟩ : ∃ b, b = bl N := ⟨_, rfl⟩
  have HB := Lib.hid hb.symm
  rcases Nat.eq_zero_or_pos N with h0 | h0
  · rw [if_pos h0] at hs
    have HS := Lib.hid hs
    have hd : ((b : Int) == 0) = true := beq_iff_eq.2 (by rw [hb, h0]; rfl)
    clear hn hq hs h0 hb
    go_enter Tryz.func17, Tryz.ntmps17
    go_wp2_with fail
    refine (Bits_num hn1).mono ?_; rintro e w' ⟨rfl, rfl⟩
    rw [HB.out]
    go_wp2_with fail
    go_ret
    exact ⟨ret_i64e HS.out.symm, B0⟩
  · rw [if_neg (by omega)] at hs
    have hbp := bl_pos h0
    have hd : ((b : Int) == 0) = false := beq_eq_false_iff_ne.2 (by omega)
    cases s
    all_goals
      have HS := Lib.hid hs
      clear hn hq hs h0 hb hbp
      go_enter Tryz.func17, Tryz.ntmps17
      go_wp2_with fail
      refine (Bits_num hn1).mono ?_; rintro e w' ⟨rfl, rfl⟩
      rw [HB.out]
      go_wp2_with fail
      go_ret
      exact ⟨ret_i64e HS.out.symm, B0⟩
/-- the boxes of two structs that came in -/
theorem boxesS (w : World) (s t : Bool) (ao bo po qo : Option Addr) (n ca m cb l cl j cj : Nat) : ∃ W1, W1 = (w.alloc (.cells #[.bool s, .slice ao n ca, .slice bo m cb] 25)).alloc (.cells #[.bool t, .slice po l cl, .slice qo j cj] 25) ∧ Below w.heap.size w W1 ∧
    Hid (∀ w', Below W1.heap.size W1 w' → w'.cell? ⟨w.heap.size, 0, none⟩ = some (.bool s) ∧ w'.cell? ⟨w.heap.size, 1, none⟩ = some (.slice ao n ca) ∧ w'.cell? ⟨w.heap.size, 2, none⟩ = some (.slice bo m cb) ∧ w'.cell? ⟨w.heap.size + 1, 0, none⟩ = some (.bool t) ∧ w'.cell? ⟨w.heap.size + 1, 1, none⟩ = some (.slice po l cl) ∧ w'.cell? ⟨w.heap.size + 1, 2, none⟩ = some (.slice qo j cj)) := by
  refine ⟨_, rfl, ?_⟩
  obtain ⟨U1, hU1⟩ : ∃ U1, U1 = w.alloc (.cells #[.bool s, .slice ao n ca, .slice bo m cb] 25) := ⟨_, rfl⟩
  obtain ⟨W1, hW1⟩ : ∃ W1, W1 = U1.alloc (.cells #[.bool t, .slice po l cl, .slice qo j cj] 25) := ⟨_, rfl⟩
  rw [← hU1, ← hW1]
  have s1 : U1.heap.size = w.heap.size + 1 := by rw [hU1]; simp
  have s3 : W1.heap.size = w.heap.size + 1 + 1 := by rw [hW1]; simp [s1]
  have x0 : W1.heap[w.heap.size]? = some (.cells #[.bool s, .slice ao n ca, .slice bo m cb] 25 (0, 0)) := by
    rw [hW1, Below.heap_alloc _ _ _ (by omega), hU1]; exact heap_alloc_new w _
  have y0 : W1.heap[w.heap.size + 1]? = some (.cells #[.bool t, .slice po l cl, .slice qo j cj] 25 (0, 0)) := by
    rw [hW1, ← s1]; exact heap_alloc_new U1 _
  refine ⟨?_, ?_⟩
  · rw [hW1, hU1]; exact (below_new w _).alloc (by simp) _
  · intro w' hb
    obtain ⟨a1, a2, a3, _⟩ := at_block ((hb.block w.heap.size (by omega)).trans x0)
    obtain ⟨b1, b2, b3, _⟩ := at_block ((hb.block (w.heap.size + 1) (by omega)).trans y0)
    exact ⟨a1, a2, a3, b1, b2, b3⟩
theorem Same_lenR (ao bo : Option Addr) (ca cb n m : Nat) (xs : List Nat) (w : World) (ha : Rd w ao ca xs) (hb : Rd w bo cb xs) (hn : n = xs.length) (hm : m = xs.length) :
    Calls Tryz.prog 29 #[.slice ao n ca, .slice bo m cb] w fun e w' => e = .returned (.bool true) ∧ Below w.heap.size w w' := by
  subst hn; subst hm; exact Same_eq ao bo ca cb xs w ha hb

set_option maxHeartbeats 4000000 in
set_option maxRecDepth 100000 in
/-- two results that stand for one number are the same -/
theorem Same_q {B B' : Nat} {s t : Bool} {ao bo po qo : Option Addr} {n ca m cb l cl j cj k k' : Nat} {p q : Rat} {w : World} (h1 : CQ B w s ao n ca bo m cb p k) (h2 : CQ B' w t po l cl qo j cj q k') (hpq : p = q) :
    Calls Tryz.prog 13 #[.agg #[.bool s, .slice ao n ca, .slice bo m cb], .agg #[.bool t, .slice po l cl, .slice qo j cj]] w fun e w' => e = .returned (.bool true) ∧ Below w.heap.size w w' := by
  subst hpq
  obtain ⟨a1, a2, a3, a4, a5, _⟩ := h1
  obtain ⟨c1, c2, c3, c4, c5, _⟩ := h2
  obtain ⟨W1, hW1, B0, K⟩ := boxesS w s t ao bo po qo n ca m cb l cl j cj
  have hd : (s == t) = true := beq_iff_eq.2 (a1.trans c1.symm)
  have r1 := a4.rd.below B0
  have r2 := c4.rd.below B0
  have r3 := a5.rd.below B0
  have r4 := c5.rd.below B0
  have L1 := Lib.hid a2
  have L2 := Lib.hid c2
  have L3 := Lib.hid a3
  have L4 := Lib.hid c3
  clear a1 a2 a3 a4 a5 c1 c2 c3 c4 c5
  obtain ⟨e0, e1, e2, e3, e4, e5⟩ := K.out W1 (Below.refl _ _)
  go_enter Tryz.func13, Tryz.ntmps13
  go_wp2_with fail
  rw [← hW1]
  clear hW1
  refine (Same_lenR _ _ _ _ _ _ _ _ r1 r2 L1.out L2.out).mono ?_; rintro e W2 ⟨rfl, b1⟩
  replace r3 := r3.below b1
  replace r4 := r4.below b1
  obtain ⟨g0, g1, g2, g3, g4, g5⟩ := K.out W2 b1
  clear e0 e1 e2 e3 e4 e5
  go_wp2_with fail
  refine (Same_lenR _ _ _ _ _ _ _ _ r3 r4 L3.out L4.out).mono ?_; rintro e W3 ⟨rfl, b2⟩
  go_wp2_with fail
  go_ret
  exact ⟨rfl, (B0.trans (b1.mono B0.size)).trans (b2.mono (B0.trans (b1.mono B0.size)).size)⟩
end Go.Proofs.YtdcnkebcpaelpaaGreatDoor
/- Contract of the law's canonical. -/
namespace Go.Proofs.YtdcnkebcpaelpaaGreatDoor
open Go.RowKit

theorem gcd_self (q : Rat) : Nat.gcd (rn q) q.den = 1 := q.reduced
theorem den_of_zero {q : Rat} (h : rn q = 0) : q.den = 1 ∧ rs q = false := by
  have h1 := gcd_self q
  rw [h, Nat.gcd_zero_left] at h1
  refine ⟨h1, ?_⟩
  unfold rn at h
  unfold rs
  exact decide_eq_false (by omega)
theorem top_ne {N : Nat} (h : 0 < N) : lm (dig N) ((dig N).length - 1) ≠ 0 := by
  rcases canon_dig N with e | e
  · exact absurd e (dig_ne_nil h)
  · exact e
theorem dig_one_cell : lm (dig 1) 0 = 1 := rfl
/-- a box of one struct alone -/
theorem boxC {w w' : World} {u v x : Value} {t : TypeId} (hb : Below (w.heap.size + 1) (w.alloc (.cells #[u, v, x] t)) w') : w'.cell? ⟨w.heap.size, 0, none⟩ = some u ∧ w'.cell? ⟨w.heap.size, 1, none⟩ = some v ∧ w'.cell? ⟨w.heap.size, 2, none⟩ = some x := by
  obtain ⟨a, b, c, _⟩ := box3 hb
  exact ⟨a, b, c⟩

end Go.Proofs.YtdcnkebcpaelpaaGreatDoor
