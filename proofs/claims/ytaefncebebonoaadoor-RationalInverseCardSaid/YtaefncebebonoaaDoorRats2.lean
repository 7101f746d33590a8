import Derived.Test.YtaefncebebonoaaDoorRat5
/- Contracts of package rational and of its reference: signs; equality of results; the law's canonical. -/
namespace Go.Proofs.YtaefncebebonoaaDoor
open Go.RowKit

theorem ret_i64e {a b : Int} (h : a = b) : Ending.returned (.int .i64 a) = .returned (.int .i64 b) := by rw [h]
set_option maxHeartbeats 2000000 in
set_option maxRecDepth 100000 in
theorem Sign_q (s : Bool) (ao bo : Option Addr) (n ca m cb k : Nat) (q : Rat) (w : World) (h : RQ w s ao n ca bo m cb q k) :
    Calls Tryd.prog 56 #[.agg #[.bool s, .slice ao n ca, .slice bo m cb]] w fun e w' => e = .returned (.int .i64 (sgn q)) ∧ Below w.heap.size w w' := by
  obtain ⟨N, D, hn, _, _, _, hq, _⟩ := h
  have B0 := below_new w (.cells #[.bool s, .slice ao n ca, .slice bo m cb] 25)
  have hn1 := hn.below B0
  have hs := sgn_rq (s := s) (N := N) (dn_pos D)
  rw [hq] at hs
  obtain ⟨b, hb⟩ : ∃ b, b = bl N := ⟨_, rfl⟩
  have HB := Lib.hid hb.symm
  rcases Nat.eq_zero_or_pos N with h0 | h0
  · rw [if_pos h0] at hs
    have HS := Lib.hid hs
    have hd : ((b : Int) == 0) = true := beq_iff_eq.2 (by rw [hb, h0]; rfl)
    clear hn hq hs h0 hb
    go_enter Tryd.func56, Tryd.ntmps56
    go_wp2_with fail
    refine (Bits_num hn1).mono ?_; rintro e w' ⟨rfl, rfl⟩
    rw [HB.out]
    go_wp2_with fail
    go_ret
    exact ⟨ret_i64e HS.out.symm, B0⟩
  · rw [if_neg (by omega)] at hs
    have hbp := bl_pos h0
    have hd : ((b : Int) == 0) = false := beq_eq_false_iff_ne.2 (by omega)
    cases s
    all_goals
      have HS := Lib.hid hs
      clear hn hq hs h0 hb hbp
      go_enter Tryd.func56, Tryd.ntmps56
      go_wp2_with fail
      refine (Bits_num hn1).mono ?_; rintro e w' ⟨rfl, rfl⟩
      rw [HB.out]
      go_wp2_with fail
      go_ret
      exact ⟨ret_i64e HS.out.symm, B0⟩
set_option maxHeartbeats 2000000 in
set_option maxRecDepth 100000 in
theorem rSign_q (s : Bool) (ao bo : Option Addr) (n ca m cb k : Nat) (q : Rat) (w : World) (h : RQ w s ao n ca bo m cb q k) :
    Calls Tryd.prog 24 #[.agg #[.bool s, .slice ao n ca, .slice bo m cb]] w fun e w' => e = .returned (.int .i64 (sgn q)) ∧ Below w.heap.size w w' := by
  obtain ⟨N, D, hn, _, _, _, hq, _⟩ := h
  have B0 := below_new w (.cells #[.bool s, .slice ao n ca, .slice bo m cb] 25)
  have hs1 : (w.alloc (.cells #[.bool s, .slice ao n ca, .slice bo m cb] 25)).heap.size = w.heap.size + 1 := World.size_alloc _ _
  have hn1 := hn.below B0
  have hs := sgn_rq (s := s) (N := N) (dn_pos D)
  rw [hq] at hs
  rcases Nat.eq_zero_or_pos N with h0 | h0
  · rw [if_pos h0] at hs
    subst h0
    have HS := Lib.hid hs
    clear hn hq hs
    go_enter Tryd.func24, Tryd.ntmps24
    go_wp2_with fail
    refine (rTrim_num hn1).mono ?_; rintro e w2 ⟨a2, c2, rfl, f2, b2⟩
    rw [hs1] at b2
    rw [dig0]
    go_wp2_with fail
    go_ret
    exact ⟨ret_i64e HS.out.symm, B0.trans (b2.mono (by omega))⟩
  · rw [if_neg (by omega)] at hs
    obtain ⟨l, hl⟩ : ∃ l, l = (dig N).length := ⟨_, rfl⟩
    have hlp : 0 < l := by rw [hl]; exact dig_length_pos h0
    have HL := Lib.hid hl.symm
    have hd : ((l : Int) == 0) = false := beq_eq_false_iff_ne.2 (by omega)
    cases s
    all_goals
      have HS := Lib.hid hs
      clear hn hq hs h0 hl
      go_enter Tryd.func24, Tryd.ntmps24
      go_wp2_with fail
      refine (rTrim_num hn1).mono ?_; rintro e w2 ⟨a2, c2, rfl, f2, b2⟩
      rw [hs1] at b2
      obtain ⟨e0, e1, e2, _⟩ := box3 b2
      rw [HL.out]
      go_wp2_with fail
      go_ret
      exact ⟨ret_i64e HS.out.symm, B0.trans (b2.mono (by omega))⟩

/-- the boxes of two structs that came in -/
theorem boxesS (w : World) (s t : Bool) (ao bo po qo : Option Addr) (n ca m cb l cl j cj : Nat) : ∃ W1, W1 = (w.alloc (.cells #[.bool s, .slice ao n ca, .slice bo m cb] 25)).alloc (.cells #[.bool t, .slice po l cl, .slice qo j cj] 25) ∧ Below w.heap.size w W1 ∧
    Hid (∀ w', Below W1.heap.size W1 w' → w'.cell? ⟨w.heap.size, 0, none⟩ = some (.bool s) ∧ w'.cell? ⟨w.heap.size, 1, none⟩ = some (.slice ao n ca) ∧ w'.cell? ⟨w.heap.size, 2, none⟩ = some (.slice bo m cb) ∧ w'.cell? ⟨w.heap.size + 1, 0, none⟩ = some (.bool t) ∧ w'.cell? ⟨w.heap.size + 1, 1, none⟩ = some (.slice po l cl) ∧ w'.cell? ⟨w.heap.size + 1, 2, none⟩ = some (.slice qo j cj)) := by
  refine ⟨_, rfl, ?_⟩
  obtain ⟨U1, hU1⟩ : ∃ U1, U1 = w.alloc (.cells #[.bool s, .slice ao n ca, .slice bo m cb] 25) := ⟨_, rfl⟩
  obtain ⟨W1, hW1⟩ : ∃ W1, W1 = U1.alloc (.cells #[.bool t, .slice po l cl, .slice qo j cj] 25) := ⟨_, rfl⟩
  rw [← hU1, ← hW1]
  have s1 : U1.heap.size = w.heap.size + 1 := by rw [hU1]; simp
  have s3 : W1.heap.size = w.heap.size + 1 + 1 := by rw [hW1]; simp [s1]
  have x0 : W1.heap[w.heap.size]? = some (.cells #[.bool s, .slice ao n ca, .slice bo m cb] 25 (0, 0)) := by
    rw [hW1, Below.heap_alloc _ _ _ (by omega), hU1]; exact heap_alloc_new w _
  have y0 : W1.heap[w.heap.size + 1]? = some (.cells #[.bool t, .slice po l cl, .slice qo j cj] 25 (0, 0)) := by
    rw [hW1, ← s1]; exact heap_alloc_new U1 _
  refine ⟨?_, ?_⟩
  · rw [hW1, hU1]; exact (below_new w _).alloc (by simp) _
  · intro w' hb
    obtain ⟨a1, a2, a3, _⟩ := at_block ((hb.block w.heap.size (by omega)).trans x0)
    obtain ⟨b1, b2, b3, _⟩ := at_block ((hb.block (w.heap.size + 1) (by omega)).trans y0)
    exact ⟨a1, a2, a3, b1, b2, b3⟩
theorem Same_lenR (ao bo : Option Addr) (ca cb n m : Nat) (xs : List Nat) (w : World) (ha : Rd w ao ca xs) (hb : Rd w bo cb xs) (hn : n = xs.length) (hm : m = xs.length) :
    Calls Tryd.prog 44 #[.slice ao n ca, .slice bo m cb] w fun e w' => e = .returned (.bool true) ∧ Below w.heap.size w w' := by
  subst hn; subst hm; exact Same_eq ao bo ca cb xs w ha hb

set_option maxHeartbeats 4000000 in
set_option maxRecDepth 100000 in
/-- two results that stand for one number are the same -/
theorem Same_q {B B' : Nat} {s t : Bool} {ao bo po qo : Option Addr} {n ca m cb l cl j cj k k' : Nat} {p q : Rat} {w : World} (h1 : CQ B w s ao n ca bo m cb p k) (h2 : CQ B' w t po l cl qo j cj q k') (hpq : p = q) :
    Calls Tryd.prog 13 #[.agg #[.bool s, .slice ao n ca, .slice bo m cb], .agg #[.bool t, .slice po l cl, .slice qo j cj]] w fun e w' => e = .returned (.bool true) ∧ Below w.heap.size w w' := by
  subst hpq
  obtain ⟨a1, a2, a3, a4, a5, _⟩ := h1
  obtain ⟨c1, c2, c3, c4, c5, _⟩ := h2
  obtain ⟨W1, hW1, B0, K⟩ := boxesS w s t ao bo po qo n ca m cb l cl j cj
  have hd : (s == t) = true := beq_iff_eq.2 (a1.trans c1.symm)
  have r1 := a4.rd.below B0
  have r2 := c4.rd.below B0
  have r3 := a5.rd.below B0
  have r4 := c5.rd.below B0
  have L1 := Lib.hid a2
  have L2 := Lib.hid c2
  have L3 := Lib.hid a3
  have L4 := Lib.hid c3
  clear a1 a2 a3 a4 a5 c1 c2 c3 c4 c5
  obtain ⟨e0, e1, e2, e3, e4, e5⟩ := K.out W1 (Below.refl _ _)
  go_enter Tryd.func13, Tryd.ntmps13
  go_wp2_with fail
  rw [← hW1]
  clear hW1
  refine (Same_lenR _ _ _ _ _ _ _ _ r1 r2 L1.out L2.out).mono ?_; rintro e W2 ⟨rfl, b1⟩
  replace r3 := r3.below b1
  replace r4 := r4.below b1
  obtain ⟨g0, g1, g2, g3, g4, g5⟩ := K.out W2 b1
  clear e0 e1 e2 e3 e4 e5
  go_wp2_with fail
  refine (Same_lenR _ _ _ _ _ _ _ _ r3 r4 L3.out L4.out).mono ?_; rintro e W3 ⟨rfl, b2⟩
  go_wp2_with fail
  go_ret
  exact ⟨rfl, (B0.trans (b1.mono B0.size)).trans (b2.mono (B0.trans (b1.mono B0.size)).size)⟩
end Go.Proofs.YtaefncebebonoaaDoor
/- Contract of the law's canonical. -/
namespace Go.Proofs.YtaefncebebonoaaDoor
open Go.RowKit

theorem gcd_self (q : Rat) : Nat.gcd (rn q) q.den = 1 := q.reduced
theorem den_of_zero {q : Rat} (h : rn q = 0) : q.den = 1 ∧ rs q = false := by
  have h1 := gcd_self q
  rw [h, Nat.gcd_zero_left] at h1
  refine ⟨h1, ?_⟩
  unfold rn at h
  unfold rs
  exact decide_eq_false (by omega)
theorem top_ne {N : Nat} (h : 0 < N) : lm (dig N) ((dig N).length - 1) ≠ 0 := by
  rcases canon_dig N with e | e
  · exact absurd e (dig_ne_nil h)
  · exact e
theorem dig_one_cell : lm (dig 1) 0 = 1 := rfl
/-- a box of one struct alone -/
theorem boxC {w w' : World} {u v x : Value} {t : TypeId} (hb : Below (w.heap.size + 1) (w.alloc (.cells #[u, v, x] t)) w') : w'.cell? ⟨w.heap.size, 0, none⟩ = some u ∧ w'.cell? ⟨w.heap.size, 1, none⟩ = some v ∧ w'.cell? ⟨w.heap.size, 2, none⟩ = some x := by
  obtain ⟨a, b, c, _⟩ := box3 hb
  exact ⟨a, b, c⟩

set_option maxHeartbeats 8000000 in
set_option maxRecDepth 100000 in
theorem canonical_q {B : Nat} {s : Bool} {ao bo : Option Addr} {n ca m cb k : Nat} {q : Rat} {w : World} (h : CQ B w s ao n ca bo m cb q k) :
    Calls Tryd.prog 18 #[.agg #[.bool s, .slice ao n ca, .slice bo m cb]] w fun e w' => e = .returned (.bool true) ∧ Below w.heap.size w w' := by
  obtain ⟨a1, a2, a3, a4, a5, a6, a7⟩ := h
  have B0 := below_new w (.cells #[.bool s, .slice ao n ca, .slice bo m cb] 25)
  have hs1 : (w.alloc (.cells #[.bool s, .slice ao n ca, .slice bo m cb] 25)).heap.size = w.heap.size + 1 := World.size_alloc _ _
  have BX : Below (w.heap.size + 1) (w.alloc (.cells #[.bool s, .slice ao n ca, .slice bo m cb] 25)) (w.alloc (.cells #[.bool s, .slice ao n ca, .slice bo m cb] 25)) := Below.refl _ _
  have f1 := a4.below B0
  have f2 := a5.below B0
  have nN := Num.of_fr f1 a6
  have G1 := Lib.hid (gcd_self q)
  have hnc := f1.1
  have hnm := f1.2.1
  have hmc := f2.1
  have hmm := f2.2.1
  rw [← a2] at hnc nN
  rw [← a3] at hmc
  have e1len : (dig 1).length = 1 := rfl
  by_cases hd1 : q.den = 1
  · have hm0 : m = 0 := by rw [a3, hd1]; rfl
    subst hm0
    have n1 := one_new (w.alloc (.cells #[.bool s, .slice ao n ca, .slice bo 0 cb] 25))
    have s1 : Sm 1 k := by rw [← hd1]; exact a7
    have b1 := below_new (w.alloc (.cells #[.bool s, .slice ao n ca, .slice bo 0 cb] 25)) (.cells #[.int .u32 1] 59)
    rw [hs1] at n1 b1
    have BY := BX.trans b1
    have nN2 := nN.below (hs1.symm ▸ b1)
    have f1' := f1.below (hs1.symm ▸ b1)
    have cOne : ∀ w', Below (w.heap.size + 1 + 1) ((w.alloc (.cells #[.bool s, .slice ao n ca, .slice bo 0 cb] 25)).alloc (.cells #[.int .u32 1] 59)) w' → w'.cell? ⟨w.heap.size + 1, 0, none⟩ = some (.int .u32 1) := fun w' hb => by
      have h0 := heap_alloc_new (w.alloc (.cells #[.bool s, .slice ao n ca, .slice bo 0 cb] 25)) (.cells #[.int .u32 1] 59)
      rw [hs1] at h0
      have h1 := (hb.block (w.heap.size + 1) (by omega)).trans h0
      simp [World.cell?, h1]
    have HC := Lib.hid cOne
    have hG1 : Hid (Nat.gcd (rn q) 1 = 1) := Nat.gcd_one_right _
    rcases Nat.eq_zero_or_pos n with hn0 | hn0
    · have hz : rn q = 0 := zero_of_len (by omega)
      have hsf : s = false := by rw [a1]; exact (den_of_zero hz).2
      subst hsf; subst hn0
      clear a1 a2 a3 a4 a5 f1 f2 hd1 hz cOne G1
      go_enter Tryd.func18, Tryd.ntmps18
      go_wp2_with fail
      refine (rGCD_num nN2 n1 a6 s1).mono ?_; rintro e w3 ⟨a, c, rfl, fg, bg⟩
      rw [hG1.out] at fg ⊢
      obtain ⟨bgk, rfl, _, og⟩ := fg.block (by rw [e1len]; omega)
      have hgc := og.cell (j := 0) (by rw [e1len]; omega)
      have hg1 := fg.1
      have hg2 := fg.2.1
      rw [e1len] at hg1 ⊢
      rw [dig_one_cell] at hgc
      obtain ⟨q0, q1, q2⟩ := boxC (BY.trans (bg.mono (by simp)))
      have hone := HC.out w3 (by have := bg; simpa using this)
      go_wp2_with fail
      go_ret
      exact ⟨rfl, (B0.trans (b1.mono (by omega))).trans (bg.mono (by simp; omega))⟩
    · obtain ⟨ba, rfl, _, oa⟩ := f1'.block (by rw [← a2]; exact hn0)
      have hac := oa.cell (j := n - 1) (by rw [← a2]; omega)
      have hal := oa.lt
      have htop : lm (dig (rn q)) (n - 1) ≠ 0 := by
        rw [a2]; exact top_ne (pos_of_len (by omega))
      obtain ⟨t, ht⟩ : ∃ t, t = lm (dig (rn q)) (n - 1) := ⟨_, rfl⟩
      rw [← ht] at hac htop
      have hdt : ((t : Int) != 0) = true := by rw [bne_iff_ne]; omega
      have hdn : ((n : Int) == 0) = false := beq_eq_false_iff_ne.2 (by omega)
      clear a1 a2 a3 a4 a5 f1 f2 hd1 cOne G1 ht oa f1'
      go_enter Tryd.func18, Tryd.ntmps18
      go_wp2_with fail
      refine (rGCD_num nN2 n1 a6 s1).mono ?_; rintro e w3 ⟨a, c, rfl, fg, bg⟩
      rw [hG1.out] at fg ⊢
      obtain ⟨bgk, rfl, _, og⟩ := fg.block (by rw [e1len]; omega)
      have hgc := og.cell (j := 0) (by rw [e1len]; omega)
      have hg1 := fg.1
      have hg2 := fg.2.1
      rw [e1len] at hg1 ⊢
      rw [dig_one_cell] at hgc
      obtain ⟨q0, q1, q2⟩ := boxC (BY.trans (bg.mono (by simp)))
      have hone := HC.out w3 (by have := bg; simpa using this)
      have hac3 : w3.cell? ⟨ba, n - 1, none⟩ = some (.int .u32 (t : Int)) := (bg.cell (p := ⟨ba, n - 1, none⟩) hal).trans hac
      clear hac
      go_wp2_with fail
      go_ret
      exact ⟨rfl, (B0.trans (b1.mono (by omega))).trans (bg.mono (by simp; omega))⟩
  · have hdd : dd q.den = dig q.den := dd_of hd1
    have hdp := den_pos q
    rw [hdd] at a3 a5 f2
    have hm0 : 0 < m := by rw [a3]; exact dig_length_pos hdp
    have hn0 : 0 < n := by
      rcases Nat.eq_zero_or_pos n with e | e
      · exact absurd (den_of_zero (zero_of_len (by omega))).1 hd1
      · exact e
    have nD := Num.of_fr f2 a7
    rw [← a3] at nD
    obtain ⟨ba, rfl, _, oa⟩ := f1.block (by rw [← a2]; exact hn0)
    have hac := oa.cell (j := n - 1) (by rw [← a2]; omega)
    have hal := oa.lt
    have htop : lm (dig (rn q)) (n - 1) ≠ 0 := by
      rw [a2]; exact top_ne (pos_of_len (by omega))
    obtain ⟨t, ht⟩ : ∃ t, t = lm (dig (rn q)) (n - 1) := ⟨_, rfl⟩
    rw [← ht] at hac htop
    have hdt : ((t : Int) != 0) = true := by rw [bne_iff_ne]; omega
    have hdn : ((n : Int) == 0) = false := beq_eq_false_iff_ne.2 (by omega)
    have hdm : ((m : Int) == 0) = false := beq_eq_false_iff_ne.2 (by omega)
    obtain ⟨bb, rfl, _, ob⟩ := f2.block (by rw [← a3]; exact hm0)
    have hbc := ob.cell (j := m - 1) (by rw [← a3]; omega)
    have hbl := ob.lt
    have htopb : lm (dig q.den) (m - 1) ≠ 0 := by
      rw [a3]; exact top_ne hdp
    have hm1v : m = 1 → lm (dig q.den) (m - 1) ≠ 1 := by
      intro e h1
      rw [e] at h1 a3
      have h2 := vl_ge (dig q.den) 1 (by omega)
      rw [val_dig, vl, vl, pw_zero, h1] at h2
      omega
    obtain ⟨u, hu⟩ : ∃ u, u = lm (dig q.den) (m - 1) := ⟨_, rfl⟩
    rw [← hu] at hbc htopb hm1v
    have hdu : ((u : Int) != 0) = true := by rw [bne_iff_ne]; omega
    by_cases hm1 : m = 1
    · subst hm1
      have hdu1 : ((u : Int) != 1) = true := by have := hm1v rfl; rw [bne_iff_ne]; omega
      clear a1 a2 a3 a4 a5 f1 f2 hd1 ht oa ob hu hm1v
      go_enter Tryd.func18, Tryd.ntmps18
      go_wp2_with fail
      refine (rGCD_num nN nD a6 a7).mono ?_; rintro e w3 ⟨a, c, rfl, fg, bg⟩
      rw [G1.out] at fg ⊢
      rw [hs1] at bg hal hbl
      obtain ⟨bgk, rfl, _, og⟩ := fg.block (by rw [e1len]; omega)
      have hgc := og.cell (j := 0) (by rw [e1len]; omega)
      have hg1 := fg.1
      have hg2 := fg.2.1
      rw [e1len] at hg1 ⊢
      rw [dig_one_cell] at hgc
      obtain ⟨q0, q1, q2⟩ := boxC bg
      have hac3 : w3.cell? ⟨ba, n - 1, none⟩ = some (.int .u32 (t : Int)) := (bg.cell (p := ⟨ba, n - 1, none⟩) hal).trans hac
      have hbc3 : w3.cell? ⟨bb, 0, none⟩ = some (.int .u32 (u : Int)) := (bg.cell (p := ⟨bb, 0, none⟩) hbl).trans hbc
      clear hac hbc
      go_wp2_with fail
      go_ret
      exact ⟨rfl, B0.trans (bg.mono (by omega))⟩
    · have hdm1 : ((m : Int) != 1) = true := by rw [bne_iff_ne]; omega
      clear a1 a2 a3 a4 a5 f1 f2 hd1 ht oa ob hu hm1v hm1
      go_enter Tryd.func18, Tryd.ntmps18
      go_wp2_with fail
      refine (rGCD_num nN nD a6 a7).mono ?_; rintro e w3 ⟨a, c, rfl, fg, bg⟩
      rw [G1.out] at fg ⊢
      rw [hs1] at bg hal hbl
      obtain ⟨bgk, rfl, _, og⟩ := fg.block (by rw [e1len]; omega)
      have hgc := og.cell (j := 0) (by rw [e1len]; omega)
      have hg1 := fg.1
      have hg2 := fg.2.1
      rw [e1len] at hg1 ⊢
      rw [dig_one_cell] at hgc
      obtain ⟨q0, q1, q2⟩ := boxC bg
      have hac3 : w3.cell? ⟨ba, n - 1, none⟩ = some (.int .u32 (t : Int)) := (bg.cell (p := ⟨ba, n - 1, none⟩) hal).trans hac
      have hbc3 : w3.cell? ⟨bb, m - 1, none⟩ = some (.int .u32 (u : Int)) := (bg.cell (p := ⟨bb, m - 1, none⟩) hbl).trans hbc
      clear hac hbc
      go_wp2_with fail
      go_ret
      exact ⟨rfl, B0.trans (bg.mono (by omega))⟩
end Go.Proofs.YtaefncebebonoaaDoor
