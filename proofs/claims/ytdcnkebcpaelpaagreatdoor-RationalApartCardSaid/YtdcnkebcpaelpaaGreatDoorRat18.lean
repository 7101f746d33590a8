import Derived.Test.YtdcnkebcpaelpaaGreatDoorPows2
/- Contracts: powers with any exponent that fits. -/
namespace Go.Proofs.YtdcnkebcpaelpaaGreatDoor
open Go.RowKit

theorem pow_bits {N j : Nat} (h : bl N * j ≤ 131072) (h0 : 0 < j) (E : Nat) (hE : 131072 ≤ E) : N ^ j < 2 ^ E := by
  have a := Nat.pow_lt_pow_left (bl_self N) (n := j) (by omega)
  rw [← Nat.pow_mul] at a
  exact Nat.lt_of_lt_of_le a (Nat.pow_le_pow_right (by omega) (by omega))
theorem pow_why {N j : Nat} (h : bl N * j ≤ 131072) (h0 : 0 < j) : powWhy N (j : Int) = 0 := by
  unfold powWhy
  rw [if_neg (by omega), Int.toNat_natCast]
  by_cases h1 : (j : Int) = 0 ∨ bl N ≤ 1
  · rw [if_pos h1]
  · rw [if_neg h1]
    refine if_neg ?_
    obtain ⟨E, hE⟩ : ∃ E : Nat, E = 131072 := ⟨_, rfl⟩
    have a5 := bl_le.2 (pow_bits h h0 E (by omega))
    have a6 : ¬ 131071 / j < bl N - 1 := by
      intro h3
      rw [Nat.div_lt_iff_lt_mul h0, Nat.sub_mul] at h3
      omega
    omega
theorem pow_fits {ao : Option Addr} {n ca N j : Nat} {w : World} (ha : Num w ao n ca N) (h : bl N * j ≤ 131072) (h0 : 0 < j) (hj : j ≤ 9223372036854775807) : Calls Tryz.prog 25 #[.slice ao n ca, .int .i64 (j : Int)] w (PowPost 0 (N ^ j) w) := by
  have := Power_num (j : Int) ha (by omega) (by omega)
  rwa [pow_why h h0, show powRes N (j : Int) = N ^ j by unfold powRes; rw [if_pos (pow_why h h0), Int.toNat_natCast]] at this
theorem pow_sm5 {N j : Nat} (h : bl N * j ≤ 131072) : Sm (N ^ j) 5000 := by
  refine ⟨?_, by omega⟩
  rw [pw_two]
  obtain ⟨E, hE⟩ : ∃ E : Nat, E = 32 * 5000 := ⟨_, rfl⟩
  rw [← hE]
  rcases Nat.eq_zero_or_pos j with e | e
  · subst e; rw [Nat.pow_zero]; exact Nat.one_lt_two_pow (by omega)
  · exact pow_bits h e E (by omega)

set_option maxHeartbeats 20000000 in
set_option maxRecDepth 100000 in
theorem Power_fit (s : Bool) (ao bo : Option Addr) (n ca m cb j : Nat) (ng : Bool) (i : Int) (q : Rat) (w : World) (h : RQ w s ao n ca bo m cb q 2) (hq0 : q ≠ 0) (hj : 0 < j) (hj2 : j ≤ 65536) (hfit : bl (rn q) * j ≤ 131072 ∧ bl q.den * j ≤ 131072) (hi : i = if ng then -(j : Int) else (j : Int)) :
    Calls Tryz.prog 7 #[.agg #[.bool s, .slice ao n ca, .slice bo m cb], .int .i64 i] w (MakesE (powE q j ng) 5000 w) := by
  obtain ⟨W1, hW1, hsz, B0, X0, K⟩ := boxes1 w s ao n ca bo m cb
  have h1 := h.below B0
  have hi0 : (i == 0) = false := by rw [beq_eq_false_iff_ne, hi]; split <;> omega
  have hib : -65536 ≤ i ∧ i ≤ 65536 := by rw [hi]; split <;> omega
  obtain ⟨hib1, hib2⟩ := hib
  have hne0 : (sgn q == 0) = false := beq_eq_false_iff_ne.2 (fun e => hq0 (sgn_zero_iff.1 e))
  obtain ⟨u, hu⟩ : ∃ u, u = sgn q := ⟨_, rfl⟩
  rw [← hu] at hne0
  have HU := Lib.hid hu
  have HQ0 := Lib.hid hq0
  have HI := Lib.hid hi
  obtain ⟨o, ho⟩ : ∃ o : Nat, o = j % 2 := ⟨_, rfl⟩
  have hand : bits BinOp.and IntKind.i64 i 1 = (o : Int) := by
    rw [i64_and_one, hi, ho]; split <;> omega
  have hodd : odd j = decide (o = 1) := by unfold odd; rw [ho]
  have HO := Lib.hid hodd
  have hmx : max i (-i) = (j : Int) := by rw [hi]; split <;> omega
  have hwn : IntKind.i64.wrap (-i) = -i := IntWalk.i64_in _ (by omega)
  have hob : o = 0 ∨ o = 1 := by omega
  clear h hsz hi hq0 ho hodd hu
  go_enter Tryz.func7, Tryz.ntmps7
  go_wp2_with fail
  rw [← hW1]
  clear hW1
  refine (Normalize_q s ao bo n ca m cb 2 q _ h1).mono ?_; rintro e W2 ⟨s2, a2, n2, c2, o2, m2, d2, rfl, cq2, b2⟩
  have n2x := below_new W2 (.cells #[.bool s2, .slice a2 n2 c2, .slice o2 m2 d2] 25)
  have X3 := (X0.below b2).below n2x
  have cq3 := cq2.below n2x
  have y3 := heap_alloc_new W2 (.cells #[.bool s2, .slice a2 n2 c2, .slice o2 m2 d2] 25)
  have B3 := b2.trans (n2x.mono b2.size)
  have hlt := X0.lt
  obtain ⟨W3, hW3⟩ : ∃ W3, W3 = W2.alloc (.cells #[.bool s2, .slice a2 n2 c2, .slice o2 m2 d2] 25) := ⟨_, rfl⟩
  rw [← hW3] at X3 cq3 y3 B3
  go_upto_region 4 with fail
  rw [← hW3]
  obtain ⟨gb, hgb⟩ : ∃ g, g = W2.heap.size := ⟨_, rfl⟩
  rw [← hgb] at y3 ⊢
  clear hW3 hgb n2x cq2 b2
  obtain ⟨k0, k1, k2, _⟩ := at_block y3
  go_wp2_with fail
  refine (Sign_q s2 a2 o2 n2 c2 m2 d2 2 q _ cq3.rq).mono ?_; rintro e W4 ⟨rfl, b4⟩
  rw [← HU.out]
  have X4 := X3.below b4
  have cq4 := cq3.below b4
  have y4 := carry y3 b4
  have B4 := B3.trans (b4.mono B3.size)
  clear k0 k1 k2 X3 cq3 y3 B3 b4 h1
  obtain ⟨k0, k1, k2, _⟩ := at_block y4
  obtain ⟨hs2, hN, hn2, fN, ⟨D, hD, hdD⟩, sN, sD⟩ := cq4.parts
  have HS2 := Lib.hid hs2
  have HN2 := Lib.hid hn2
  have HDD := Lib.hid hdD
  clear hs2 hn2 hdD
  obtain ⟨nb, hnb⟩ : ∃ nb, nb = (s2 && odd j) := ⟨_, rfl⟩
  have HNB := Lib.hid hnb
  rw [HO.out] at hnb
  have HF1 := Lib.hid hfit.1
  have HF2 := Lib.hid hfit.2
  obtain ⟨bn, hbn⟩ : ∃ b, bl (rn q) = b := ⟨_, rfl⟩
  obtain ⟨bd, hbd⟩ : ∃ b, bl q.den = b := ⟨_, rfl⟩
  have hbn2 : bn ≤ 64 := by rw [← hbn]; exact bits_of sN
  have hbd2 : bd ≤ 64 := by rw [← hbd]; exact bits_of sD
  have hbn1 : 1 ≤ bn := by
    rw [← hbn]
    exact bl_pos (rn_pos HQ0.out)
  have hbd1 : 1 ≤ bd := by
    rw [← hbd]
    exact bl_pos (den_pos q)
  have HBF := Lib.hid (show bn * j ≤ 131072 ∧ bd * j ≤ 131072 by rw [← hbn, ← hbd]; exact hfit)
  have HBN := Lib.hid hbn
  have HBD := Lib.hid hbd
  clear hbn hbd hfit
  have HNB2 := Lib.hid hnb
  clear hnb
  go_upto_region 6 with fail
  go_cut [7] from 13 to 81 (fun v7 wx => v7 = .bool nb ∧ wx = W4)
  case first =>
    cases s2
    all_goals rcases hob with rfl | rfl
    all_goals
      go_wp2_with fail
      go_meet
      exact ⟨by rw [HNB2.out]; rfl, rfl⟩
  case rest =>
    obtain ⟨rfl, rfl⟩ := hcut
    go_wp2_with fail
    refine (denominator_num _ a2 o2 n2 c2 m2 d2 D _ hD).mono ?_; rintro e W5 ⟨a5, n5, c5, rfl, num5, b5⟩
    rw [HDD.out] at num5
    have X5 := X4.below b5
    have y5 := carry y4 b5
    have B5 := B4.trans (b5.mono B4.size)
    have hN5 := hN.below b5
    have fN5 := fN.below b5
    clear k0 k1 k2 X4 cq4 y4 B4 b5 hN fN hD hand hob
    obtain ⟨k0, k1, k2, _⟩ := at_block y5
    obtain ⟨sz, hsz⟩ : ∃ z, z = max bn bd := ⟨_, rfl⟩
    have hmax : max (bn : Int) (bd : Int) = (sz : Int) := by omega
    have HSZ := Lib.hid hsz
    have hsz2 : sz ≤ 64 := by omega
    have hsz1 : 1 ≤ sz := by omega
    clear hsz
    have FIN : Hid (∀ (N' D' : Nat) (W8 W9 : World) (aN : Option Addr) (cN : Nat) (aD : Option Addr) (mD cD : Nat), Nat.gcd N' D' = 1 → 0 < N' → 0 < D' → rq nb N' D' = powE q j ng → Fr W1.heap.size W8 aN cN (dig N') → mD = (dd D').length → Fr W1.heap.size W8 aD cD (dd D') → Sm N' 5000 → Sm D' 5000 → Below W1.heap.size W1 W8 → ∀ x y z : Value,
        MakesE (powE q j ng) 5000 w (.returned (.tuple #[.agg #[.bool nb, .slice aN (dig N').length cN, .slice aD mD cD], .int .i64 0])) (((W8.setCell ⟨w.heap.size + 1, 0, none⟩ x).setCell ⟨w.heap.size + 1, 1, none⟩ y).setCell ⟨w.heap.size + 1, 2, none⟩ z)) := by
      intro N' D' W8 W9 aN cN aD mD cD hg hN0 hD0 hp f1 hm f2 t1 t2 hb x y z
      have hc := cq_copr (s := nb) hg hN0 hD0 rfl f1 hm f2 t1 t2
      rw [hp] at hc
      exact MakesE.of (MakesQ.lift hc rfl hlt (Nat.le_succ _) (B0.trans (hb.mono B0.size)) _ _ _)
    go_wp2_with fail
    refine (Bits_num hN5).mono ?_; rintro e w' ⟨rfl, rfl⟩
    rw [HBN.out]
    go_wp2_with fail
    refine (Bits_num num5).mono ?_; rintro e w' ⟨rfl, rfl⟩
    rw [HBD.out]
    by_cases h1 : sz = 1
    · have hst : ((sz : Int) == 1) = true := by rw [beq_iff_eq]; omega
      have sm1 : Sm 1 5000 := (show Sm 1 200 from ten_sm (j := 0) (by omega)).up (by omega) (by omega)
      have e1 : bn = 1 ∧ bd = 1 := by have := HSZ.out; omega
      have eN : rn q = 1 := bl_one.1 (by rw [HBN.out]; exact e1.1)
      have eD : q.den = 1 := bl_one.1 (by rw [HBD.out]; exact e1.2)
      have HEN := Lib.hid eN
      have HED := Lib.hid eD
      have hn2p : 0 < n2 := by rw [HN2.out, eN]; decide
      have hdec : decide (0 < n2) = true := decide_eq_true hn2p
      clear e1 eN eD hsz1
      go_wp2_with fail
      refine (lowest_any nb a2 a5 n2 c2 n5 c5 q.den _ num5 HED.out).mono ?_; rintro e W6 ⟨rfl, b6⟩
      have X6 := X5.below b6
      have fN6 := fN5.below b6
      have B6 := B5.trans (b6.mono B5.size)
      obtain ⟨u0, u1, u2, q0, q1, q2, z0, z1, z2⟩ := X6.facts
      have hfin := fun x y z => FIN.out 1 1 W6 W6 a2 c2 none 0 0 (by decide) (by decide) (by decide) (by unfold powE; rw [HEN.out, HED.out, Nat.one_pow, ite_self, HNB.out, HS2.out]) (by have := fN6; rw [HEN.out] at this; exact this) rfl (Fr.nil _ _) sm1 sm1 B6 x y z
      have HF := Lib.hid hfin
      clear hfin b6 X6 fN6 num5 hN5
      go_wp2_with fail
      refine bodyPost_ret (v := .tuple #[.agg #[.bool nb, .slice a2 n2 c2, .slice none 0 0], .int .i64 0]) (by simp [results, Tryz.results7, go_sem, q0, q1, q2]) rfl ?_
      have e : n2 = (dig 1).length := by rw [HN2.out, HEN.out]
      rw [e]
      exact HF.out _ _ _
    · have hst : ((sz : Int) == 1) = false := by rw [beq_eq_false_iff_ne]; omega
      obtain ⟨Q, hQ⟩ : ∃ Q, Q = 131072 / sz := ⟨_, rfl⟩
      have hq : (131072 : Int) / (sz : Int) = (Q : Int) := by rw [hQ]; exact (Int.natCast_ediv 131072 sz).symm
      have hqb : Q ≤ 131072 := by rw [hQ]; exact Nat.div_le_self _ _
      have hq2 : j ≤ Q := by
        rw [hQ, Nat.le_div_iff_mul_le (by omega), Nat.mul_comm]
        rcases Nat.le_total bn bd with e | e
        · rw [HSZ.out, Nat.max_eq_right e]; exact HBF.out.2
        · rw [HSZ.out, Nat.max_eq_left e]; exact HBF.out.1
      have hqt : Int.tdiv 131072 (sz : Int) = (Q : Int) := by rw [Int.tdiv_eq_ediv_of_nonneg (by omega)]; exact hq
      have hqw : IntKind.i64.wrap (Q : Int) = (Q : Int) := IntWalk.i64_in _ (by omega)
      have hzz : ((sz : Int) == 0) = false := by rw [beq_eq_false_iff_ne]; omega
      have hgt : decide ((Q : Int) < (j : Int)) = false := decide_eq_false (by omega)
      clear hQ
      have HP1 : Hid (Sm (rn q ^ j) 5000) := pow_sm5 HF1.out
      have HP2 : Hid (Sm (q.den ^ j) 5000) := pow_sm5 HF2.out
      have p1 : 0 < rn q ^ j := Nat.pow_pos (rn_pos HQ0.out)
      have p2 : 0 < q.den ^ j := Nat.pow_pos (den_pos q)
      obtain ⟨PN, hPN⟩ : ∃ x, x = rn q ^ j := ⟨_, rfl⟩
      obtain ⟨PD, hPD⟩ : ∃ x, x = q.den ^ j := ⟨_, rfl⟩
      have C1 : Hid (∀ w', Num w' a2 n2 c2 (rn q) → Calls Tryz.prog 25 #[.slice a2 n2 c2, .int .i64 (j : Int)] w' (PowPost 0 PN w')) := fun w' h => by rw [hPN]; exact pow_fits h HF1.out hj (by omega)
      have C2 : Hid (∀ w', Num w' a5 n5 c5 q.den → Calls Tryz.prog 25 #[.slice a5 n5 c5, .int .i64 (j : Int)] w' (PowPost 0 PD w')) := fun w' h => by rw [hPD]; exact pow_fits h HF2.out hj (by omega)
      have hgc := copr_pow (q := q) j
      have hgc2 : Nat.gcd (q.den ^ j) (rn q ^ j) = 1 := by rw [Nat.gcd_comm]; exact hgc
      have hpe : powE q j ng = rq nb (if ng then PD else PN) (if ng then PN else PD) := by unfold powE; rw [hPN, hPD, HNB.out, HS2.out]
      rw [← hPN] at HP1 p1 hgc hgc2
      rw [← hPD] at HP2 p2 hgc hgc2
      have HPE := Lib.hid hpe
      have HG1 := Lib.hid hgc
      have HG2 := Lib.hid hgc2
      clear hPN hPD hgc hgc2 hpe sN sD
      go_wp2_with fail
      refine (C1.out _ hN5).mono ?_; rintro e W6 ⟨a6, c6, rfl, f6, b6⟩
      go_wp2_with fail
      refine (C2.out _ (num5.below b6)).mono ?_; rintro e W7 ⟨a7, c7, rfl, f7, b7⟩
      have X7 := (X5.below b6).below b7
      have B7 := (B5.trans (b6.mono B5.size)).trans (b7.mono (B5.trans (b6.mono B5.size)).size)
      have fN7 := (f6.below b7).mono B5.size
      have fD7 := f7.mono (B5.trans (b6.mono B5.size)).size
      have nN7 := Num.of_fr fN7 HP1.out
      have nD7 := Num.of_fr fD7 HP2.out
      have lN : 0 < (dig PN).length := dig_length_pos p1
      have lD : 0 < (dig PD).length := dig_length_pos p2
      have dN : decide (0 < (dig PN).length) = true := decide_eq_true lN
      have dD : decide (0 < (dig PD).length) = true := decide_eq_true lD
      clear f6 f7 b6 b7 X5 hN5 num5 fN5 B5 C1 C2 hgt hzz hqw hqt hq
      cases ng
      · have hneg : decide (i < 0) = false := decide_eq_false (by rw [HI.out, if_neg (by simp)]; omega)
        by_cases h1 : PD = 1
        · have H1 := Lib.hid h1
          clear h1
          go_wp2_with fail
          refine (lowest_any nb a6 a7 _ c6 _ c7 PD _ nD7 H1.out).mono ?_; rintro e W8 ⟨rfl, b8⟩
          have X8 := X7.below b8
          obtain ⟨u0, u1, u2, q0, q1, q2, z0, z1, z2⟩ := X8.facts
          have hfin := fun x y z => FIN.out PN PD W8 W8 a6 c6 none 0 0 HG1.out p1 p2 (by rw [HPE.out]; rfl) (fN7.below b8) (by rw [H1.out]; rfl) (by rw [H1.out]; exact Fr.nil _ _) HP1.out HP2.out (B7.trans (b8.mono B7.size)) x y z
          have HF := Lib.hid hfin
          clear hfin b8 X8
          go_wp2_with fail
          refine bodyPost_ret (v := .tuple #[.agg #[.bool nb, .slice a6 (dig PN).length c6, .slice none 0 0], .int .i64 0]) (by simp [results, Tryz.results7, go_sem, q0, q1, q2]) rfl (HF.out _ _ _)
        · have H1 := Lib.hid h1
          clear h1
          go_wp2_with fail
          refine (lowest_other nb a6 a7 _ c6 _ c7 PD _ nD7 H1.out).mono ?_; rintro e W8 ⟨rfl, b8⟩
          have X8 := X7.below b8
          obtain ⟨u0, u1, u2, q0, q1, q2, z0, z1, z2⟩ := X8.facts
          have hfin := fun x y z => FIN.out PN PD W8 W8 a6 c6 a7 (dig PD).length c7 HG1.out p1 p2 (by rw [HPE.out]; rfl) (fN7.below b8) (by rw [dd_of H1.out]) (by rw [dd_of H1.out]; exact fD7.below b8) HP1.out HP2.out (B7.trans (b8.mono B7.size)) x y z
          have HF := Lib.hid hfin
          clear hfin b8 X8
          go_wp2_with fail
          refine bodyPost_ret (v := .tuple #[.agg #[.bool nb, .slice a6 (dig PN).length c6, .slice a7 (dig PD).length c7], .int .i64 0]) (by simp [results, Tryz.results7, go_sem, q0, q1, q2]) rfl (HF.out _ _ _)
      · have hneg : decide (i < 0) = true := decide_eq_true (by rw [HI.out, if_pos rfl]; omega)
        by_cases h1 : PN = 1
        · have H1 := Lib.hid h1
          clear h1
          go_wp2_with fail
          refine (lowest_any nb a7 a6 _ c7 _ c6 PN _ nN7 H1.out).mono ?_; rintro e W8 ⟨rfl, b8⟩
          have X8 := X7.below b8
          obtain ⟨u0, u1, u2, q0, q1, q2, z0, z1, z2⟩ := X8.facts
          have hfin := fun x y z => FIN.out PD PN W8 W8 a7 c7 none 0 0 HG2.out p2 p1 (by rw [HPE.out]; rfl) (fD7.below b8) (by rw [H1.out]; rfl) (by rw [H1.out]; exact Fr.nil _ _) HP2.out HP1.out (B7.trans (b8.mono B7.size)) x y z
          have HF := Lib.hid hfin
          clear hfin b8 X8
          go_wp2_with fail
          refine bodyPost_ret (v := .tuple #[.agg #[.bool nb, .slice a7 (dig PD).length c7, .slice none 0 0], .int .i64 0]) (by simp [results, Tryz.results7, go_sem, q0, q1, q2]) rfl (HF.out _ _ _)
        · have H1 := Lib.hid h1
          clear h1
          go_wp2_with fail
          refine (lowest_other nb a7 a6 _ c7 _ c6 PN _ nN7 H1.out).mono ?_; rintro e W8 ⟨rfl, b8⟩
          have X8 := X7.below b8
          obtain ⟨u0, u1, u2, q0, q1, q2, z0, z1, z2⟩ := X8.facts
          have hfin := fun x y z => FIN.out PD PN W8 W8 a7 c7 a6 (dig PN).length c6 HG2.out p2 p1 (by rw [HPE.out]; rfl) (fD7.below b8) (by rw [dd_of H1.out]) (by rw [dd_of H1.out]; exact fN7.below b8) HP2.out HP1.out (B7.trans (b8.mono B7.size)) x y z
          have HF := Lib.hid hfin
          clear hfin b8 X8
          go_wp2_with fail
          refine bodyPost_ret (v := .tuple #[.agg #[.bool nb, .slice a7 (dig PD).length c7, .slice a6 (dig PN).length c6], .int .i64 0]) (by simp [results, Tryz.results7, go_sem, q0, q1, q2]) rfl (HF.out _ _ _)
end Go.Proofs.YtdcnkebcpaelpaaGreatDoor
