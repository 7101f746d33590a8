import Derived.Test.YtdcnkebcpaelpaaGreatDoorRats2
import Derived.Test.YtdcnkebcpaelpaaGreatDoorPow2
/- Contracts of package rational: numbers made of integers; a number scaled to a unit. -/
namespace Go.Proofs.YtdcnkebcpaelpaaGreatDoor
open Go.RowKit

theorem mag_neg {n : Int} (h0 : -9223372036854775808 ≤ n) (h1 : n < 0) : IntKind.u64.wrap (IntKind.i64.wrap (-n)) = ((n.natAbs : Nat) : Int) ∧ n.natAbs < 18446744073709551616 := by
  rw [IntKind.wrap_u64, IntKind.wrap_i64]; omega
set_option maxHeartbeats 1000000 in
set_option maxRecDepth 100000 in
theorem magnitude_num (n : Int) (h0 : -9223372036854775808 ≤ n) (h1 : n ≤ 9223372036854775807) (w : World) :
    Calls Tryz.prog 43 #[.int .i64 n] w (Makes n.natAbs w) := by
  by_cases hn : n < 0
  · obtain ⟨e1, e2⟩ := mag_neg h0 hn
    obtain ⟨v, hv⟩ : ∃ v, v = IntKind.i64.wrap (-n) := ⟨_, rfl⟩
    rw [← hv] at e1
    have hv2 := hv.symm
    obtain ⟨a, ha⟩ : ∃ a, a = n.natAbs := ⟨_, rfl⟩
    rw [← ha] at e1 e2 ⊢
    have hab : (a : Int) ≤ 18446744073709551615 := by omega
    clear hv ha
    go_enter Tryz.func43, Tryz.ntmps43
    go_wp2_with fail
    refine (FromUint_any (a : Int) (by omega) hab _).mono ?_; rintro e w1 ⟨a1, c1, rfl, f1, b1⟩
    rw [Int.toNat_natCast] at f1 ⊢
    go_wp2_with fail
    go_ret
    exact ⟨a1, c1, rfl, f1, b1⟩
  · obtain ⟨a, rfl⟩ : ∃ a : Nat, n = (a : Int) := ⟨n.toNat, by omega⟩
    have ha : (a : Int).natAbs = a := by omega
    rw [ha]
    clear ha
    go_enter Tryz.func43, Tryz.ntmps43
    go_wp2_with fail
    refine (FromUint_any (a : Int) (by omega) (by omega) _).mono ?_; rintro e w1 ⟨a1, c1, rfl, f1, b1⟩
    rw [Int.toNat_natCast] at f1 ⊢
    go_wp2_with fail
    go_ret
    exact ⟨a1, c1, rfl, f1, b1⟩
theorem sm_abs {n : Int} (h0 : -9223372036854775808 ≤ n) (h1 : n ≤ 9223372036854775807) : Sm n.natAbs 2 := by
  refine ⟨?_, by omega⟩
  have : pw 2 = 18446744073709551616 := by simp [pw]
  omega
/-- the box of a result alone -/
theorem boxR (w : World) : ∃ W1, W1 = w.alloc (.cells #[.bool false, .slice none 0 0, .slice none 0 0] 25) ∧ Below w.heap.size w W1 ∧ Box3 W1 w.heap.size ∧ W1.heap.size = w.heap.size + 1 := by
  refine ⟨_, rfl, below_new w _, ⟨_, _, _, heap_alloc_new w _⟩, World.size_alloc _ _⟩
/-- what a function that makes a number, without an error, gives -/
def MakesE (q : Rat) (k : Nat) (w : World) (e : Ending) (w' : World) : Prop := ∃ s ao n ca bo m cb, e = .returned (.tuple #[.agg #[.bool s, .slice ao n ca, .slice bo m cb], .int .i64 0]) ∧ CQ w.heap.size w' s ao n ca bo m cb q k ∧ Below w.heap.size w w'
theorem MakesE.of {q : Rat} {k : Nat} {w w' : World} {s : Bool} {ao : Option Addr} {n ca : Nat} {bo : Option Addr} {m cb : Nat} (h : MakesQ q k w (.returned (.agg #[.bool s, .slice ao n ca, .slice bo m cb])) w') : MakesE q k w (.returned (.tuple #[.agg #[.bool s, .slice ao n ca, .slice bo m cb], .int .i64 0])) w' := by
  obtain ⟨s', ao', n', ca', bo', m', cb', he, h1, h2⟩ := h
  cases he
  exact ⟨_, _, _, _, _, _, _, rfl, h1, h2⟩

set_option maxHeartbeats 2000000 in
set_option maxRecDepth 100000 in
theorem Fraction_q (n d : Int) (hn0 : -9223372036854775808 ≤ n) (hn1 : n ≤ 9223372036854775807) (hd0 : -9223372036854775808 ≤ d) (hd1 : d ≤ 9223372036854775807) (hd : d ≠ 0) (w : World) :
    Calls Tryz.prog 35 #[.int .i64 n, .int .i64 d] w (MakesE (rq (decide (n < 0) != decide (d < 0)) n.natAbs d.natAbs) 2 w) := by
  obtain ⟨W1, hW1, B0, X0, hs1⟩ := boxR w
  have hdz : (d == 0) = false := beq_eq_false_iff_ne.2 hd
  have s1 := sm_abs hn0 hn1
  have s2 := sm_abs hd0 hd1
  have hp : 0 < d.natAbs := by omega
  have HS := Lib.hid hs1
  obtain ⟨A, hA⟩ : ∃ A, A = n.natAbs := ⟨_, rfl⟩
  obtain ⟨D, hD⟩ : ∃ D, D = d.natAbs := ⟨_, rfl⟩
  have MA : Hid (∀ w, Calls Tryz.prog 43 #[.int .i64 n] w (Makes A w)) := fun w => by rw [hA]; exact magnitude_num n hn0 hn1 w
  have MD : Hid (∀ w, Calls Tryz.prog 43 #[.int .i64 d] w (Makes D w)) := fun w => by rw [hD]; exact magnitude_num d hd0 hd1 w
  rw [← hA] at s1 ⊢
  rw [← hD] at s2 hp ⊢
  obtain ⟨sg0, hsg⟩ : ∃ sg0, sg0 = (decide (n < 0) != decide (d < 0)) := ⟨_, rfl⟩
  rw [← hsg]
  have HG := Lib.hid (show (!(decide (n < 0) == decide (d < 0))) = sg0 by rw [hsg]; rfl)
  clear hA hD hd hs1 hsg
  go_enter Tryz.func35, Tryz.ntmps35
  go_wp2_with fail
  rw [← hW1]
  clear hW1
  refine (MA.out _).mono ?_; rintro e W2 ⟨a1, c1, rfl, f1, b1⟩
  go_wp2_with fail
  refine (MD.out _).mono ?_; rintro e W3 ⟨a2, c2, rfl, f2, b2⟩
  replace f1 := f1.below b2
  have X3 := (X0.below b1).below b2
  have B3 := (B0.trans (b1.mono B0.size)).trans (b2.mono (B0.trans (b1.mono B0.size)).size)
  go_wp2_with fail
  rw [HG.out]
  refine (reduced_any sg0 a1 a2 _ c1 _ c2 A D 2 _ (Num.of_fr f1 s1) (Num.of_fr f2 s2) hp s1 s2).mono ?_
  rintro e W9 ⟨s9, a9, n9, c9, o9, m9, d9, rfl, hcq, b9⟩
  have X9 := X3.below b9
  obtain ⟨u0, u1, u2, q0, q1, q2, z0, z1, z2⟩ := X9.facts
  go_wp2_with fail
  refine bodyPost_ret (v := .tuple #[.agg #[.bool s9, .slice a9 n9 c9, .slice o9 m9 d9], .int .i64 0]) (by simp [results, Tryz.results35, go_sem, q0, q1, q2]) rfl ?_
  exact MakesE.of (MakesQ.lift hcq rfl X3.lt (Nat.le_refl _) (B3.trans (b9.mono B3.size)) _ _ _)

theorem q_why_zero {N j : Nat} (h : Sm N 2) (hj : j ≤ 60) : powWhy N (j : Int) = 0 := by
  have hb : bl N ≤ 64 := bits_of h
  unfold powWhy
  rw [if_neg (by omega), Int.toNat_natCast]
  by_cases h1 : (j : Int) = 0 ∨ bl N ≤ 1
  · rw [if_pos h1]
  · rw [if_neg h1]
    have hj0 : 0 < j := by omega
    refine if_neg ?_
    intro h2
    have a1 : 131071 / 60 ≤ 131071 / j := Nat.div_le_div_left hj hj0
    have a2 : N ^ j ≤ (2 ^ bl N) ^ j := Nat.pow_le_pow_left (Nat.le_of_lt (bl_self N)) j
    rw [← Nat.pow_mul] at a2
    have a3 : bl N * j ≤ 64 * 60 := Nat.mul_le_mul hb hj
    obtain ⟨E, hE⟩ : ∃ E : Nat, E = 131072 := ⟨_, rfl⟩
    have a4 : N ^ j < 2 ^ E := Nat.lt_of_le_of_lt a2 (Nat.pow_lt_pow_right (by omega) (by omega))
    have a5 := bl_le.2 a4
    omega
theorem q_res_pow {N j : Nat} (h : Sm N 2) (hj : j ≤ 60) : powRes N (j : Int) = N ^ j := by
  unfold powRes; rw [if_pos (q_why_zero h hj), Int.toNat_natCast]
/-- Power without an error -/
theorem q_Power_fine {ao : Option Addr} {n ca N j : Nat} {w : World} (i : Int) (hi : i = (j : Int)) (ha : Num w ao n ca N) (hs : Sm N 2) (hj : j ≤ 60) : Calls Tryz.prog 25 #[.slice ao n ca, .int .i64 i] w (PowPost 0 (N ^ j) w) := by
  subst hi
  have := Power_num (j : Int) ha (by omega) (by omega)
  rwa [q_why_zero hs hj, q_res_pow hs hj] at this
theorem q_pow_sm60 {N j : Nat} (h : Sm N 2) (hj : j ≤ 60) : Sm (N ^ j) 200 := by
  have hb : bl N ≤ 64 := bits_of h
  have a2 : N ^ j ≤ (2 ^ bl N) ^ j := Nat.pow_le_pow_left (Nat.le_of_lt (bl_self N)) j
  rw [← Nat.pow_mul] at a2
  have a3 : bl N * j ≤ 64 * 60 := Nat.mul_le_mul hb hj
  refine ⟨?_, by omega⟩
  rw [pw_two]
  obtain ⟨E, hE⟩ : ∃ E : Nat, E = 32 * 200 := ⟨_, rfl⟩
  rw [← hE]
  exact Nat.lt_of_le_of_lt a2 (Nat.pow_lt_pow_right (by omega) (by omega))


set_option maxHeartbeats 1000000 in
set_option maxRecDepth 100000 in
theorem tens_num (j : Nat) (hj : j ≤ 60) (i : Int) (hi : i = (j : Int)) (w : World) : Calls Tryz.prog 69 #[.int .i64 i] w (Makes (10 ^ j) w) := by
  subst hi
  have s10 : Sm 10 2 := ⟨by simp [pw], by omega⟩
  go_enter Tryz.func69, Tryz.ntmps69
  go_wp2_with fail
  refine (FromUint_any 10 (by omega) (by omega) _).mono ?_; rintro e w1 ⟨a1, c1, rfl, f1, b1⟩
  have n1 := Num.of_fr f1 (show Sm (10 : Int).toNat 2 from s10)
  have hp := q_Power_fine (j := j) (j : Int) rfl n1 s10 hj
  have HP := Lib.hid hp
  clear hp
  go_wp2_with fail
  refine HP.out.mono ?_; rintro e w2 ⟨a2, c2, rfl, f2, b2⟩
  go_wp2_with fail
  go_ret
  exact ⟨a2, c2, rfl, f2.mono b1.size, b1.trans (b2.mono b1.size)⟩
theorem ten_sm {j : Nat} (hj : j ≤ 60) : Sm (10 ^ j) 200 := q_pow_sm60 ⟨by simp [pw], by omega⟩ hj

/-- the units depend on the number alone -/
theorem ru_scale {a b g T : Nat} (hg : 0 < g) : ru (a * g) (b * g) T = ru a b T := by
  unfold ru
  have e1 : a * g * T * 2 + b * g = g * (a * T * 2 + b) := by grind
  have e2 : b * g * 2 = g * (b * 2) := by grind
  rw [e1, e2, Nat.mul_div_mul_left _ _ hg]
theorem ru_rat {s : Bool} {N D T : Nat} (hD : 0 < D) : ru N D T = ru (rn (rq s N D)) (rq s N D).den T := by
  have hg : 0 < Nat.gcd N D := Nat.gcd_pos_of_pos_right _ hD
  rw [rn_rq hD, rd_rq hD]
  have h := @ru_scale (N / Nat.gcd N D) (D / Nat.gcd N D) (Nat.gcd N D) T hg
  rw [Nat.div_mul_cancel (Nat.gcd_dvd_left _ _), Nat.div_mul_cancel (Nat.gcd_dvd_right _ _)] at h
  exact h
theorem ru_le {N D T : Nat} : ru N D T ≤ N * T * 2 + D := Nat.div_le_self _ _

set_option maxHeartbeats 4000000 in
set_option maxRecDepth 100000 in
theorem scaled_q (s : Bool) (ao bo : Option Addr) (n ca m cb k j : Nat) (q : Rat) (w : World) (h : RQ w s ao n ca bo m cb q k) (hk : k ≤ 100000) (hj : j ≤ 60) :
    Calls Tryz.prog 55 #[.agg #[.bool s, .slice ao n ca, .slice bo m cb], .int .i64 (j : Int)] w fun e w' => Makes (ru (rn q) q.den (10 ^ j)) w e w' ∧ Sm (ru (rn q) q.den (10 ^ j)) (k + 300) := by
  obtain ⟨N, D, hn, hd, sn, sd, hq, sdn⟩ := h
  have B0 := below_new w (.cells #[.bool s, .slice ao n ca, .slice bo m cb] 25)
  have hs1 : (w.alloc (.cells #[.bool s, .slice ao n ca, .slice bo m cb] 25)).heap.size = w.heap.size + 1 := World.size_alloc _ _
  have BX : Below (w.heap.size + 1) (w.alloc (.cells #[.bool s, .slice ao n ca, .slice bo m cb] 25)) (w.alloc (.cells #[.bool s, .slice ao n ca, .slice bo m cb] 25)) := Below.refl _ _
  have hn1 := hn.below B0
  have hd1 := hd.below B0
  have hru := ru_rat (s := s) (N := N) (T := 10 ^ j) (dn_pos D)
  rw [hq] at hru
  have s10 := ten_sm hj
  have s2 : Sm 2 1 := ⟨by simp [pw], by omega⟩
  have sT := sn.mul s10 (by omega)
  have sT2 : Sm (N * 10 ^ j * 2) (k + 201) := (sT.mul s2 (by omega)).up (by omega) (by omega)
  have sS := sT2.add sdn (by omega)
  have sE := sdn.mul s2 (by omega)
  obtain ⟨R, hR⟩ : ∃ R, R = ru N (dn D) (10 ^ j) := ⟨_, rfl⟩
  obtain ⟨tw, htw⟩ : ∃ tw : Nat, tw = 2 := ⟨_, rfl⟩
  obtain ⟨T, hT⟩ : ∃ T, T = 10 ^ j := ⟨_, rfl⟩
  have hdiv : (N * 10 ^ j * 2 + dn D) / (dn D * 2) = R := by rw [hR]; rfl
  have sR : Sm R (k + 300) := by
    have h1 := sT2.1
    have h2 := sdn.1
    refine ⟨?_, by omega⟩
    have h3 : R ≤ N * 10 ^ j * 2 + dn D := by rw [hR]; exact ru_le
    have h5 : pw (k + 201) + pw k ≤ pw (k + 300) := by
      have a1 : pw (k + 201 + 1) ≤ pw (k + 300) := pw_mono (by omega)
      have a2 : pw k ≤ pw (k + 201) := pw_mono (by omega)
      rw [pw_succ] at a1
      omega
    omega
  rw [← hru, ← hR]
  have TN : Hid (∀ w, Calls Tryz.prog 69 #[.int .i64 (j : Int)] w (Makes (10 ^ j) w)) := fun w => tens_num j hj _ rfl w
  have T2 : Hid (∀ w, Calls Tryz.prog 41 #[.int .u64 2] w (Makes tw w)) := fun w => by
    rw [htw]
    have h := FromUint_any 2 (by omega) (by omega) w
    rw [show (2 : Int).toNat = 2 from rfl] at h
    exact h
  rw [← hT] at TN s10 sT
  rw [← hT, ← htw] at sT2 sS hdiv
  rw [← htw] at s2 sE
  have HD := Lib.hid hdiv
  have DP := Lib.hid (show 0 < dn D * tw by have := dn_pos D; rw [htw]; omega)
  clear hn hd hq hru hR hdiv sd htw hT
  go_enter Tryz.func55, Tryz.ntmps55
  go_wp2_with fail
  refine (denominator_num s ao bo n ca m cb D _ hd1).mono ?_; rintro e W2 ⟨a1, n1, c1, rfl, num1, b1⟩
  rw [hs1] at b1
  replace BX := BX.trans b1
  replace hn1 := hn1.below (hs1.symm ▸ b1)
  have hz2 := BX.size
  rw [hs1] at hz2
  obtain ⟨e0, e1, e2⟩ := boxC BX
  go_wp2_with fail
  replace hn1 := hn1.below (w' := W2.drew) (Below.refl _ _).drew
  replace num1 := num1.below (w' := W2.drew) (Below.refl _ _).drew
  have BW : Below w.heap.size w W2 := B0.trans (BX.mono (by omega))
  have K : Hid (∀ w', Below W2.heap.size W2 w' → w'.cell? ⟨w.heap.size, 1, none⟩ = some (.slice ao n ca) ∧ Below W2.heap.size W2 w') := fun w' hb => ⟨(hb.cell (p := ⟨w.heap.size, 1, none⟩) (by show w.heap.size < _; omega)).trans e1, hb⟩
  clear e0 e1 e2 BX b1 hs1 B0
  go_region_held3 (fun w' => w'.cell? ⟨w.heap.size, 1, none⟩ = some (.slice ao n ca) ∧ Below W2.heap.size W2 w')
    (first | exact K.out _ (Below.refl _ _).drew | exact K.out _ (keepB b3 (by assumption) (Nat.le_refl _)) | exact K.out _ (keepB b4 (by assumption) (Nat.le_refl _)) | exact K.out _ (keepB b5 (by assumption) (Nat.le_refl _)) | exact K.out _ (keepB b6 (by assumption) (Nat.le_refl _)))
    (first
      | (go_at_call 69; go_split_ands; refine (TN.out _).mono ?_; rintro e W3 ⟨a3, c3, rfl, f3, b3⟩; have num3 := num1.below b3)
      | (go_at_call_of 19 (Value.slice ao n ca); go_split_ands; refine (Mul_num (hn1.below b3) (Num.of_fr f3 s10)).mono ?_; rintro e W4 ⟨a4, c4, rfl, f4, b4⟩; have num4 := num3.below b4)
      | (go_at_call 41; go_split_ands; refine (T2.out _).mono ?_; rintro e W5 ⟨a5, c5, rfl, f5, b5⟩; have num5 := num4.below b5)
      | (go_at_call_of 19 (Value.slice a4 (dig (N * T)).length c4); go_split_ands; refine (Mul_num (Num.of_fr (f4.below b5) sT) (Num.of_fr f5 s2)).mono ?_; rintro e W6 ⟨a6, c6, rfl, f6, b6⟩; have num6 := num5.below b6; have BY : Below W2.heap.size W2 W6 := keepB b6 (by assumption) (Nat.le_refl _)))
  have n6 := Num.of_fr f6 sT2
  go_wp2_with fail
  refine (Add_num n6 num6).mono ?_; rintro e W7 ⟨a7, c7, rfl, f7, b7⟩
  have num7 := num6.below b7
  go_wp2_with fail
  refine (T2.out _).mono ?_; rintro e W8 ⟨a8, c8, rfl, f8, b8⟩
  have num8 := num7.below b8
  have f7' := f7.below b8
  go_wp2_with fail
  refine (Mul_num num8 (Num.of_fr f8 s2)).mono ?_; rintro e W9 ⟨a9, c9, rfl, f9, b9⟩
  have f7'' := f7'.below b9
  have BZ := ((BY.trans (b7.mono BY.size)).trans (b8.mono (BY.trans (b7.mono BY.size)).size)).trans (b9.mono ((BY.trans (b7.mono BY.size)).trans (b8.mono (BY.trans (b7.mono BY.size)).size)).size)
  go_wp2_with fail
  refine (Divide_numD (Num.of_fr f7'' sS) (Num.of_fr f9 sE) DP.out HD.out rfl).mono ?_; rintro e W10 ⟨qo, qc, ro, rc, rfl, fq, fr, b10⟩
  have BB := BW.trans ((BZ.trans (b10.mono BZ.size)).mono BW.size)
  go_wp2_with fail
  go_ret
  exact ⟨⟨qo, qc, rfl, fq.mono (Nat.le_trans BW.size BZ.size), BB⟩, sR⟩
end Go.Proofs.YtdcnkebcpaelpaaGreatDoor
