import Derived.Test.YtdcnkebcpaelpaaRats2
import Derived.Test.YtdcnkebcpaelpaaPows1
import Derived.Deep.RegionWith
/- Contracts of package rational: numbers made of integers; a number scaled to a unit. -/
namespace Go.Proofs.Ytdcnkebcpaelpaa
open Go.RowKit

theorem mag_neg {n : Int} (h0 : -9223372036854775808 ≤ n) (h1 : n < 0) : IntKind.u64.wrap (IntKind.i64.wrap (-n)) = ((n.natAbs : Nat) : Int) ∧ n.natAbs < 18446744073709551616 := by
  rw [IntKind.wrap_u64, IntKind.wrap_i64]; omega
set_option maxHeartbeats 1000000 in
set_option maxRecDepth 100000 in
theorem magnitude_num (n : Int) (h0 : -9223372036854775808 ≤ n) (h1 : n ≤ 9223372036854775807) (w : World) :
    Calls Try.prog 64 #[.int .i64 n] w (Makes n.natAbs w) := by
  by_cases hn : n < 0
  · obtain ⟨e1, e2⟩ := mag_neg h0 hn
    obtain ⟨v, hv⟩ : ∃ v, v = IntKind.i64.wrap (-n) := ⟨_, rfl⟩
    rw [← hv] at e1
    have hv2 := hv.symm
    obtain ⟨a, ha⟩ : ∃ a, a = n.natAbs := ⟨_, rfl⟩
    rw [← ha] at e1 e2 ⊢
    have hab : (a : Int) ≤ 18446744073709551615 := by omega
    clear hv ha
    go_enter Try.func64, Try.ntmps64
    go_wp2_with fail
    refine (FromUint_any (a : Int) (by omega) hab _).mono ?_; rintro e w1 ⟨a1, c1, rfl, f1, b1⟩
    rw [Int.toNat_natCast] at f1 ⊢
    go_wp2_with fail
    go_ret
    exact ⟨a1, c1, rfl, f1, b1⟩
  · obtain ⟨a, rfl⟩ : ∃ a : Nat, n = (a : Int) := ⟨n.toNat, by omega⟩
    have ha : (a : Int).natAbs = a := by omega
    rw [ha]
    clear ha
    go_enter Try.func64, Try.ntmps64
    go_wp2_with fail
    refine (FromUint_any (a : Int) (by omega) (by omega) _).mono ?_; rintro e w1 ⟨a1, c1, rfl, f1, b1⟩
    rw [Int.toNat_natCast] at f1 ⊢
    go_wp2_with fail
    go_ret
    exact ⟨a1, c1, rfl, f1, b1⟩
theorem sm_abs {n : Int} (h0 : -9223372036854775808 ≤ n) (h1 : n ≤ 9223372036854775807) : Sm n.natAbs 2 := by
  refine ⟨?_, by omega⟩
  have : pw 2 = 18446744073709551616 := by simp [pw]
  omega
/-- the box of a result alone -/
theorem boxR (w : World) : ∃ W1, W1 = w.alloc (.cells #[.bool false, .slice none 0 0, .slice none 0 0] 40) ∧ Below w.heap.size w W1 ∧ Box3 W1 w.heap.size ∧ W1.heap.size = w.heap.size + 1 := by
  refine ⟨_, rfl, below_new w _, ⟨_, _, _, heap_alloc_new w _⟩, World.size_alloc _ _⟩
/-- what a function that makes a number, without an error, gives -/
def MakesE (q : Rat) (k : Nat) (w : World) (e : Ending) (w' : World) : Prop := ∃ s ao n ca bo m cb, e = .returned (.tuple #[.agg #[.bool s, .slice ao n ca, .slice bo m cb], .int .i64 0]) ∧ CQ w.heap.size w' s ao n ca bo m cb q k ∧ Below w.heap.size w w'
theorem MakesE.of {q : Rat} {k : Nat} {w w' : World} {s : Bool} {ao : Option Addr} {n ca : Nat} {bo : Option Addr} {m cb : Nat} (h : MakesQ q k w (.returned (.agg #[.bool s, .slice ao n ca, .slice bo m cb])) w') : MakesE q k w (.returned (.tuple #[.agg #[.bool s, .slice ao n ca, .slice bo m cb], .int .i64 0])) w' := by
  obtain ⟨s', ao', n', ca', bo', m', cb', he, h1, h2⟩ := h
  cases he
  exact ⟨_, _, _, _, _, _, _, rfl, h1, h2⟩

theorem q_why_zero {N j : Nat} (h : Sm N 2) (hj : j ≤ 60) : powWhy N (j : Int) = 0 := by
  have hb : bl N ≤ 64 := bits_of h
  unfold powWhy
  rw [if_neg (by omega), Int.toNat_natCast]
  by_cases h1 : (j : Int) = 0 ∨ bl N ≤ 1
  · rw [if_pos h1]
  · rw [if_neg h1]
    have hj0 : 0 < j := by omega
    refine if_neg ?_
    intro h2
    have a1 : 131071 / 60 ≤ 131071 / j := Nat.div_le_div_left hj hj0
    have a2 : N ^ j ≤ (2 ^ bl N) ^ j := Nat.pow_le_pow_left (Nat.le_of_lt (bl_self N)) j
    rw [← Nat.pow_mul] at a2
    have a3 : bl N * j ≤ 64 * 60 := Nat.mul_le_mul hb hj
    obtain ⟨E, hE⟩ : ∃ E : Nat, E = 131072 := ⟨_, rfl⟩
    have a4 : N ^ j < 2 ^ E := Nat.lt_of_le_of_lt a2 (Nat.pow_lt_pow_right (by omega) (by omega))
    have a5 := bl_le.2 a4
    omega
theorem q_res_pow {N j : Nat} (h : Sm N 2) (hj : j ≤ 60) : powRes N (j : Int) = N ^ j := by
  unfold powRes; rw [if_pos (q_why_zero h hj), Int.toNat_natCast]
theorem q_pow_sm60 {N j : Nat} (h : Sm N 2) (hj : j ≤ 60) : Sm (N ^ j) 200 := by
  have hb : bl N ≤ 64 := bits_of h
  have a2 : N ^ j ≤ (2 ^ bl N) ^ j := Nat.pow_le_pow_left (Nat.le_of_lt (bl_self N)) j
  rw [← Nat.pow_mul] at a2
  have a3 : bl N * j ≤ 64 * 60 := Nat.mul_le_mul hb hj
  refine ⟨?_, by omega⟩
  rw [pw_two]
  obtain ⟨E, hE⟩ : ∃ E : Nat, E = 32 * 200 := ⟨_, rfl⟩
  rw [← hE]
  exact Nat.lt_of_le_of_lt a2 (Nat.pow_lt_pow_right (by omega) (by omega))


theorem ten_sm {j : Nat} (hj : j ≤ 60) : Sm (10 ^ j) 200 := q_pow_sm60 ⟨by simp [pw], by omega⟩ hj

/-- the units depend on the number alone -/
theorem ru_scale {a b g T : Nat} (hg : 0 < g) : ru (a * g) (b * g) T = ru a b T := by
  unfold ru
  have e1 : a * g * T * 2 + b * g = g * (a * T * 2 + b) := by grind
  have e2 : b * g * 2 = g * (b * 2) := by grind
  rw [e1, e2, Nat.mul_div_mul_left _ _ hg]
theorem ru_rat {s : Bool} {N D T : Nat} (hD : 0 < D) : ru N D T = ru (rn (rq s N D)) (rq s N D).den T := by
  have hg : 0 < Nat.gcd N D := Nat.gcd_pos_of_pos_right _ hD
  rw [rn_rq hD, rd_rq hD]
  have h := @ru_scale (N / Nat.gcd N D) (D / Nat.gcd N D) (Nat.gcd N D) T hg
  rw [Nat.div_mul_cancel (Nat.gcd_dvd_left _ _), Nat.div_mul_cancel (Nat.gcd_dvd_right _ _)] at h
  exact h
theorem ru_le {N D T : Nat} : ru N D T ≤ N * T * 2 + D := Nat.div_le_self _ _

end Go.Proofs.Ytdcnkebcpaelpaa
/- The sanity check of layer 2's laws holds. -/
namespace Go.Proofs.Ytdcnkebcpaelpaa
open Go.RowKit

theorem dec_833 : Lib.decDigits 833 = [56, 51, 51] := by
  repeat (rw [dec_big (by omega)])
  rw [dec_small (by omega)]
  rfl
theorem awake_units : ru (rn (rq false 1 2 + rq false 1 3)) (rq false 1 2 + rq false 1 3).den (10 ^ 3) = 833 := by decide +kernel
theorem awake_sign : rs (rq false 1 2 + rq false 1 3) = false := by decide +kernel
end Go.Proofs.Ytdcnkebcpaelpaa
/- Contracts: numbers cut; quotients and differences of rational numbers. -/
namespace Go.Proofs.Ytdcnkebcpaelpaa
open Go.RowKit

theorem cq_zero (B : Nat) (w : World) (k : Nat) (hk : 1 ≤ k) (hk2 : k ≤ 549755813888) : CQ B w false none 0 0 none 0 0 (0 : Rat) k := by
  have h1 : rn (0 : Rat) = 0 := rfl
  have h2 : (0 : Rat).den = 1 := rfl
  refine ⟨rfl, by rw [h1]; rfl, by rw [h2]; rfl, by rw [h1]; exact Fr.nil _ _, by rw [h2]; exact Fr.nil _ _, ?_, ?_⟩
  · rw [h1]; exact ⟨pw_pos _, hk2⟩
  · rw [h2]; refine ⟨?_, hk2⟩; have := pw_mono hk; simp [pw] at this ⊢; omega
theorem sgn_zero_iff {q : Rat} : sgn q = 0 ↔ q = 0 := by
  unfold sgn
  constructor
  · intro h
    by_cases h1 : q.num < 0
    · rw [if_pos h1] at h; omega
    · rw [if_neg h1] at h
      by_cases h2 : q.num = 0
      · exact Rat.num_eq_zero.1 h2
      · rw [if_neg h2] at h; omega
  · intro h; subst h; rfl
theorem sgn_mag (q : Rat) : -1 ≤ sgn q ∧ sgn q ≤ 1 := by
  unfold sgn; split
  · omega
  · split <;> omega
set_option maxHeartbeats 8000000 in
set_option maxRecDepth 100000 in
theorem Quo_zero (s t : Bool) (ao bo po qo : Option Addr) (n ca m cb l cl j cj k : Nat) (p q : Rat) (w : World) (h1 : RQ w s ao n ca bo m cb p k) (h2 : RQ w t po l cl qo j cj q k) (hk : k + k + 1 ≤ 549755813888) (hq0 : q = 0) :
    Calls Try.prog 31 #[.agg #[.bool s, .slice ao n ca, .slice bo m cb], .agg #[.bool t, .slice po l cl, .slice qo j cj]] w (fun e w' => e = .returned (.tuple #[.agg #[.bool false, .slice none 0 0, .slice none 0 0], .int .i64 20]) ∧ Below w.heap.size w w') := by
  obtain ⟨N, D, hn, hd, sn, sd, hqx, sdn⟩ := h1
  obtain ⟨M, E, hm, he, sm, se, hqy, sen⟩ := h2
  obtain ⟨W1, hW1, hsz, B0, X0, K⟩ := boxes2 w s t ao bo po qo n ca m cb l cl j cj
  have HX : Hid (∀ w', Below (w.heap.size + 1 + 1) W1 w' → Num w' ao n ca N ∧ Num w' bo m cb D) := fun w' hb => ⟨hn.below (B0.trans (hb.mono (by omega))), hd.below (B0.trans (hb.mono (by omega)))⟩
  have HY : Hid (∀ w', Below (w.heap.size + 1 + 1) W1 w' → Num w' po l cl M ∧ Num w' qo j cj E) := fun w' hb => ⟨hm.below (B0.trans (hb.mono (by omega))), he.below (B0.trans (hb.mono (by omega)))⟩
  have sK : ∀ a b : Nat, Sm a k → Sm b k → Sm (a * b) (k + k + 1) := fun a b x y => (x.mul y (by omega)).up (by omega) hk
  have hmq : M = 0 ↔ q = 0 := by rw [← hqy]; exact (rq_zero_iff (dn_pos E)).symm
  have HQ : Hid (rq (s != t) (N * dn E) (dn D * M) = p / q) := by show _ = _; rw [rq_div, hqx, hqy]
  have RY : Hid (∀ w', Below (w.heap.size + 1 + 1) W1 w' → RQ w' t po l cl qo j cj q k) := fun w' hb => ⟨M, E, (HY.out w' hb).1, (HY.out w' hb).2, sm, se, hqy, sen⟩
  obtain ⟨z, hz⟩ : ∃ z, z = sgn q := ⟨_, rfl⟩
  have hzm := sgn_mag q
  rw [← hz] at hzm
  have ZQ := Lib.hid hz.symm
  have DQ := Lib.hid (show z = 0 ↔ q = 0 by rw [hz]; exact sgn_zero_iff)
  clear hz
  have HSZ := Lib.hid hsz
  have hdz : (z == 0) = true := beq_iff_eq.2 (DQ.out.2 hq0)
  have dp := dn_pos D
  have ep := dn_pos E
  clear hn hd sd hm he se hqx hqy hsz hmq hq0
  go_enter Try.func31, Try.ntmps31
  have RY1 := RY.out W1 (Below.refl _ _)
  go_wp2_with fail
  rw [← hW1]
  clear hW1
  refine (Sign_q t po qo l cl j cj k q _ RY1).mono ?_; rintro e W2 ⟨rfl, b0⟩
  rw [ZQ.out]
  have BA : Below (w.heap.size + 1 + 1) W1 W2 := keepB b0 (Below.refl _ _) HSZ.out
  have XA : Box3 W2 (w.heap.size + 1 + 1) := X0.below b0
  obtain ⟨u0, u1, u2, q0, q1, q2, z0, z1, z2⟩ := XA.facts
  go_wp2_with fail
  refine bodyPost_ret (v := .tuple #[.agg #[.bool false, .slice none 0 0, .slice none 0 0], .int .i64 20]) (by simp [results, Try.results31, go_sem, q0, q1, q2]) rfl ?_
  exact ⟨rfl, below3 (B0.trans (BA.mono (by omega))) (by omega) _ _ _⟩
set_option maxHeartbeats 8000000 in
set_option maxRecDepth 100000 in
theorem Quo_q (s t : Bool) (ao bo po qo : Option Addr) (n ca m cb l cl j cj k : Nat) (p q : Rat) (w : World) (h1 : RQ w s ao n ca bo m cb p k) (h2 : RQ w t po l cl qo j cj q k) (hk : k + k + 1 ≤ 549755813888) (hq0 : q ≠ 0) :
    Calls Try.prog 31 #[.agg #[.bool s, .slice ao n ca, .slice bo m cb], .agg #[.bool t, .slice po l cl, .slice qo j cj]] w (MakesE (p / q) (k + k + 1) w) := by
  obtain ⟨N, D, hn, hd, sn, sd, hqx, sdn⟩ := h1
  obtain ⟨M, E, hm, he, sm, se, hqy, sen⟩ := h2
  obtain ⟨W1, hW1, hsz, B0, X0, K⟩ := boxes2 w s t ao bo po qo n ca m cb l cl j cj
  have HX : Hid (∀ w', Below (w.heap.size + 1 + 1) W1 w' → Num w' ao n ca N ∧ Num w' bo m cb D) := fun w' hb => ⟨hn.below (B0.trans (hb.mono (by omega))), hd.below (B0.trans (hb.mono (by omega)))⟩
  have HY : Hid (∀ w', Below (w.heap.size + 1 + 1) W1 w' → Num w' po l cl M ∧ Num w' qo j cj E) := fun w' hb => ⟨hm.below (B0.trans (hb.mono (by omega))), he.below (B0.trans (hb.mono (by omega)))⟩
  have sK : ∀ a b : Nat, Sm a k → Sm b k → Sm (a * b) (k + k + 1) := fun a b x y => (x.mul y (by omega)).up (by omega) hk
  have hmq : M = 0 ↔ q = 0 := by rw [← hqy]; exact (rq_zero_iff (dn_pos E)).symm
  have HQ : Hid (rq (s != t) (N * dn E) (dn D * M) = p / q) := by show _ = _; rw [rq_div, hqx, hqy]
  have RY : Hid (∀ w', Below (w.heap.size + 1 + 1) W1 w' → RQ w' t po l cl qo j cj q k) := fun w' hb => ⟨M, E, (HY.out w' hb).1, (HY.out w' hb).2, sm, se, hqy, sen⟩
  obtain ⟨z, hz⟩ : ∃ z, z = sgn q := ⟨_, rfl⟩
  have hzm := sgn_mag q
  rw [← hz] at hzm
  have ZQ := Lib.hid hz.symm
  have DQ := Lib.hid (show z = 0 ↔ q = 0 by rw [hz]; exact sgn_zero_iff)
  clear hz
  have HSZ := Lib.hid hsz
  have hdz : (z == 0) = false := beq_eq_false_iff_ne.2 (fun e => hq0 (DQ.out.1 e))
  have mp : 0 < M := Nat.pos_of_ne_zero (fun e => hq0 (hmq.1 e))
  have dp := dn_pos D
  have ep := dn_pos E
  clear hn hd sd hm he se hqx hqy hsz hmq hq0
  go_enter Try.func31, Try.ntmps31
  have RY1 := RY.out W1 (Below.refl _ _)
  go_wp2_with fail
  rw [← hW1]
  clear hW1
  refine (Sign_q t po qo l cl j cj k q _ RY1).mono ?_; rintro e W2 ⟨rfl, b0⟩
  rw [ZQ.out]
  have BA : Below (w.heap.size + 1 + 1) W1 W2 := keepB b0 (Below.refl _ _) HSZ.out
  have XA : Box3 W2 (w.heap.size + 1 + 1) := X0.below b0
  go_wp2_with fail
  go_region_held3 (fun w' => w'.cell? ⟨w.heap.size, 0, none⟩ = some (.bool s) ∧ w'.cell? ⟨w.heap.size, 1, none⟩ = some (.slice ao n ca) ∧ w'.cell? ⟨w.heap.size, 2, none⟩ = some (.slice bo m cb) ∧ w'.cell? ⟨w.heap.size + 1, 0, none⟩ = some (.bool t) ∧ w'.cell? ⟨w.heap.size + 1, 1, none⟩ = some (.slice po l cl) ∧ w'.cell? ⟨w.heap.size + 1, 2, none⟩ = some (.slice qo j cj) ∧ Box3 w' (w.heap.size + 1 + 1) ∧ Below (w.heap.size + 1 + 1) W1 w')
    (first | exact K.out _ BA.drew XA.drew | exact K.out _ (keepB b1 (by assumption) HSZ.out) (Box3.below (by assumption) b1) | exact K.out _ (keepB b2 (by assumption) HSZ.out) (Box3.below (by assumption) b2) | exact K.out _ (keepB b3 (by assumption) HSZ.out) (Box3.below (by assumption) b3) | exact K.out _ (keepB b4 (by assumption) HSZ.out) (Box3.below (by assumption) b4) | exact K.out _ BW XW | exact K.out _ (below3 BW (Nat.le_refl _) _ _ _) (XW.set3 _ _ _))
    (first
      | (go_at_call_of 53 (Value.agg #[.bool t, .slice po l cl, .slice qo j cj]); go_split_ands; refine (denominator_num t po qo l cl j cj E _ (HY.out _ (by assumption)).2).mono ?_; rintro e W3 ⟨a1, n1, c1, rfl, num1, b1⟩)
      | (go_at_call_of 52 (Value.slice ao n ca); go_split_ands; refine (Mul_num (HX.out _ (by assumption)).1 num1).mono ?_; rintro e W4 ⟨a2, c2, rfl, f2, b2⟩)
      | (go_at_call_of 53 (Value.agg #[.bool s, .slice ao n ca, .slice bo m cb]); go_split_ands; refine (denominator_num s ao bo n ca m cb D _ (HX.out _ (by assumption)).2).mono ?_; rintro e W5 ⟨a3, n3, c3, rfl, num3, b3⟩)
      | (go_at_call_of 52 (Value.slice a3 n3 c3); go_split_ands; refine (Mul_num num3 (HY.out _ (by assumption)).1).mono ?_; rintro e W6 ⟨a4, c4, rfl, f4, b4⟩)
      | (go_at_call 51; go_split_ands; refine (reduced_any (s != t) a2 a4 _ c2 _ c4 (N * dn E) (dn D * M) (k + k + 1) _ (Num.of_fr ((f2.below b3).below b4) (sK N _ sn sen)) (Num.of_fr f4 (sK _ _ sdn sm)) (Nat.mul_pos dp mp) (sK N _ sn sen) (sK _ _ sdn sm)).mono ?_; rintro e W9 ⟨s9, a9, n9, c9, o9, m9, d9, rfl, hcq, b9⟩; have BW : Below (w.heap.size + 1 + 1) W1 W9 := keepB b9 (by assumption) HSZ.out; have XW : Box3 W9 (w.heap.size + 1 + 1) := Box3.below (by assumption) b9; obtain ⟨u0, u1, u2, q0, q1, q2, z0, z1, z2⟩ := XW.facts))
  go_wp2_with fail
  refine bodyPost_ret (v := .tuple #[.agg #[.bool s9, .slice a9 n9 c9, .slice o9 m9 d9], .int .i64 0]) (by simp [results, Try.results31, go_sem, q0, q1, q2]) rfl ?_
  exact MakesE.of (MakesQ.lift hcq HQ.out (Box3.lt (by assumption)) (by omega) (B0.trans (BW.mono (by omega))) _ _ _)
set_option maxHeartbeats 8000000 in
set_option maxRecDepth 100000 in
theorem rQuo_zero (s t : Bool) (ao bo po qo : Option Addr) (n ca m cb l cl j cj k : Nat) (p q : Rat) (w : World) (h1 : RQ w s ao n ca bo m cb p k) (h2 : RQ w t po l cl qo j cj q k) (hk : k + k + 1 ≤ 549755813888) (hq0 : q = 0) :
    Calls Try.prog 30 #[.agg #[.bool s, .slice ao n ca, .slice bo m cb], .agg #[.bool t, .slice po l cl, .slice qo j cj]] w (fun e w' => e = .returned (.tuple #[.agg #[.bool false, .slice none 0 0, .slice none 0 0], .int .i64 20]) ∧ Below w.heap.size w w') := by
  obtain ⟨N, D, hn, hd, sn, sd, hqx, sdn⟩ := h1
  obtain ⟨M, E, hm, he, sm, se, hqy, sen⟩ := h2
  obtain ⟨W1, hW1, hsz, B0, X0, K⟩ := boxes2 w s t ao bo po qo n ca m cb l cl j cj
  have HX : Hid (∀ w', Below (w.heap.size + 1 + 1) W1 w' → Num w' ao n ca N ∧ Num w' bo m cb D) := fun w' hb => ⟨hn.below (B0.trans (hb.mono (by omega))), hd.below (B0.trans (hb.mono (by omega)))⟩
  have HY : Hid (∀ w', Below (w.heap.size + 1 + 1) W1 w' → Num w' po l cl M ∧ Num w' qo j cj E) := fun w' hb => ⟨hm.below (B0.trans (hb.mono (by omega))), he.below (B0.trans (hb.mono (by omega)))⟩
  have sK : ∀ a b : Nat, Sm a k → Sm b k → Sm (a * b) (k + k + 1) := fun a b x y => (x.mul y (by omega)).up (by omega) hk
  have hmq : M = 0 ↔ q = 0 := by rw [← hqy]; exact (rq_zero_iff (dn_pos E)).symm
  have HQ : Hid (rq (s != t) (N * dn E) (dn D * M) = p / q) := by show _ = _; rw [rq_div, hqx, hqy]
  have RY : Hid (∀ w', Below (w.heap.size + 1 + 1) W1 w' → RQ w' t po l cl qo j cj q k) := fun w' hb => ⟨M, E, (HY.out w' hb).1, (HY.out w' hb).2, sm, se, hqy, sen⟩
  obtain ⟨z, hz⟩ : ∃ z, z = sgn q := ⟨_, rfl⟩
  have hzm := sgn_mag q
  rw [← hz] at hzm
  have ZQ := Lib.hid hz.symm
  have DQ := Lib.hid (show z = 0 ↔ q = 0 by rw [hz]; exact sgn_zero_iff)
  clear hz
  have HSZ := Lib.hid hsz
  have hdz : (z == 0) = true := beq_iff_eq.2 (DQ.out.2 hq0)
  have dp := dn_pos D
  have ep := dn_pos E
  clear hn hd sd hm he se hqx hqy hsz hmq hq0
  go_enter Try.func30, Try.ntmps30
  have RY1 := RY.out W1 (Below.refl _ _)
  go_wp2_with fail
  rw [← hW1]
  clear hW1
  refine (rSign_q t po qo l cl j cj k q _ RY1).mono ?_; rintro e W2 ⟨rfl, b0⟩
  rw [ZQ.out]
  have BA : Below (w.heap.size + 1 + 1) W1 W2 := keepB b0 (Below.refl _ _) HSZ.out
  have XA : Box3 W2 (w.heap.size + 1 + 1) := X0.below b0
  obtain ⟨u0, u1, u2, q0, q1, q2, z0, z1, z2⟩ := XA.facts
  go_wp2_with fail
  refine bodyPost_ret (v := .tuple #[.agg #[.bool false, .slice none 0 0, .slice none 0 0], .int .i64 20]) (by simp [results, Try.results30, go_sem, q0, q1, q2]) rfl ?_
  exact ⟨rfl, below3 (B0.trans (BA.mono (by omega))) (by omega) _ _ _⟩
set_option maxHeartbeats 8000000 in
set_option maxRecDepth 100000 in
theorem rQuo_q (s t : Bool) (ao bo po qo : Option Addr) (n ca m cb l cl j cj k : Nat) (p q : Rat) (w : World) (h1 : RQ w s ao n ca bo m cb p k) (h2 : RQ w t po l cl qo j cj q k) (hk : k + k + 1 ≤ 549755813888) (hq0 : q ≠ 0) :
    Calls Try.prog 30 #[.agg #[.bool s, .slice ao n ca, .slice bo m cb], .agg #[.bool t, .slice po l cl, .slice qo j cj]] w (MakesE (p / q) (k + k + 1) w) := by
  obtain ⟨N, D, hn, hd, sn, sd, hqx, sdn⟩ := h1
  obtain ⟨M, E, hm, he, sm, se, hqy, sen⟩ := h2
  obtain ⟨W1, hW1, hsz, B0, X0, K⟩ := boxes2 w s t ao bo po qo n ca m cb l cl j cj
  have HX : Hid (∀ w', Below (w.heap.size + 1 + 1) W1 w' → Num w' ao n ca N ∧ Num w' bo m cb D) := fun w' hb => ⟨hn.below (B0.trans (hb.mono (by omega))), hd.below (B0.trans (hb.mono (by omega)))⟩
  have HY : Hid (∀ w', Below (w.heap.size + 1 + 1) W1 w' → Num w' po l cl M ∧ Num w' qo j cj E) := fun w' hb => ⟨hm.below (B0.trans (hb.mono (by omega))), he.below (B0.trans (hb.mono (by omega)))⟩
  have sK : ∀ a b : Nat, Sm a k → Sm b k → Sm (a * b) (k + k + 1) := fun a b x y => (x.mul y (by omega)).up (by omega) hk
  have hmq : M = 0 ↔ q = 0 := by rw [← hqy]; exact (rq_zero_iff (dn_pos E)).symm
  have HQ : Hid (rq (s != t) (N * dn E) (dn D * M) = p / q) := by show _ = _; rw [rq_div, hqx, hqy]
  have RY : Hid (∀ w', Below (w.heap.size + 1 + 1) W1 w' → RQ w' t po l cl qo j cj q k) := fun w' hb => ⟨M, E, (HY.out w' hb).1, (HY.out w' hb).2, sm, se, hqy, sen⟩
  obtain ⟨z, hz⟩ : ∃ z, z = sgn q := ⟨_, rfl⟩
  have hzm := sgn_mag q
  rw [← hz] at hzm
  have ZQ := Lib.hid hz.symm
  have DQ := Lib.hid (show z = 0 ↔ q = 0 by rw [hz]; exact sgn_zero_iff)
  clear hz
  have HSZ := Lib.hid hsz
  have hdz : (z == 0) = false := beq_eq_false_iff_ne.2 (fun e => hq0 (DQ.out.1 e))
  have mp : 0 < M := Nat.pos_of_ne_zero (fun e => hq0 (hmq.1 e))
  have dp := dn_pos D
  have ep := dn_pos E
  clear hn hd sd hm he se hqx hqy hsz hmq hq0
  go_enter Try.func30, Try.ntmps30
  have RY1 := RY.out W1 (Below.refl _ _)
  go_wp2_with fail
  rw [← hW1]
  clear hW1
  refine (rSign_q t po qo l cl j cj k q _ RY1).mono ?_; rintro e W2 ⟨rfl, b0⟩
  rw [ZQ.out]
  have BA : Below (w.heap.size + 1 + 1) W1 W2 := keepB b0 (Below.refl _ _) HSZ.out
  have XA : Box3 W2 (w.heap.size + 1 + 1) := X0.below b0
  go_wp2_with fail
  go_region_held3 (fun w' => w'.cell? ⟨w.heap.size, 0, none⟩ = some (.bool s) ∧ w'.cell? ⟨w.heap.size, 1, none⟩ = some (.slice ao n ca) ∧ w'.cell? ⟨w.heap.size, 2, none⟩ = some (.slice bo m cb) ∧ w'.cell? ⟨w.heap.size + 1, 0, none⟩ = some (.bool t) ∧ w'.cell? ⟨w.heap.size + 1, 1, none⟩ = some (.slice po l cl) ∧ w'.cell? ⟨w.heap.size + 1, 2, none⟩ = some (.slice qo j cj) ∧ Box3 w' (w.heap.size + 1 + 1) ∧ Below (w.heap.size + 1 + 1) W1 w')
    (first | exact K.out _ BA.drew XA.drew | exact K.out _ (keepB b1 (by assumption) HSZ.out) (Box3.below (by assumption) b1) | exact K.out _ (keepB b2 (by assumption) HSZ.out) (Box3.below (by assumption) b2) | exact K.out _ (keepB b3 (by assumption) HSZ.out) (Box3.below (by assumption) b3) | exact K.out _ (keepB b4 (by assumption) HSZ.out) (Box3.below (by assumption) b4) | exact K.out _ BW XW | exact K.out _ (below3 BW (Nat.le_refl _) _ _ _) (XW.set3 _ _ _))
    (first
      | (go_at_call_of 37 (Value.agg #[.bool t, .slice po l cl, .slice qo j cj]); go_split_ands; refine (rden_num t po qo l cl j cj E _ (HY.out _ (by assumption)).2).mono ?_; rintro e W3 ⟨a1, c1, rfl, f1, b1⟩)
      | (go_at_call_of 36 (Value.slice ao n ca); go_split_ands; refine (rMul_num (HX.out _ (by assumption)).1 (Num.of_fr f1 sen)).mono ?_; rintro e W4 ⟨a2, c2, rfl, f2, b2⟩)
      | (go_at_call_of 37 (Value.agg #[.bool s, .slice ao n ca, .slice bo m cb]); go_split_ands; refine (rden_num s ao bo n ca m cb D _ (HX.out _ (by assumption)).2).mono ?_; rintro e W5 ⟨a3, c3, rfl, f3, b3⟩)
      | (go_at_call_of 36 (Value.slice a3 (dig (dn D)).length c3); go_split_ands; refine (rMul_num (Num.of_fr f3 sdn) (HY.out _ (by assumption)).1).mono ?_; rintro e W6 ⟨a4, c4, rfl, f4, b4⟩)
      | (go_at_call 35; go_split_ands; refine (made_any (s != t) a2 a4 _ c2 _ c4 (N * dn E) (dn D * M) (k + k + 1) _ (Num.of_fr ((f2.below b3).below b4) (sK N _ sn sen)) (Num.of_fr f4 (sK _ _ sdn sm)) (Nat.mul_pos dp mp) (sK N _ sn sen) (sK _ _ sdn sm)).mono ?_; rintro e W9 ⟨s9, a9, n9, c9, o9, m9, d9, rfl, hcq, b9⟩; have BW : Below (w.heap.size + 1 + 1) W1 W9 := keepB b9 (by assumption) HSZ.out; have XW : Box3 W9 (w.heap.size + 1 + 1) := Box3.below (by assumption) b9; obtain ⟨u0, u1, u2, q0, q1, q2, z0, z1, z2⟩ := XW.facts))
  go_wp2_with fail
  refine bodyPost_ret (v := .tuple #[.agg #[.bool s9, .slice a9 n9 c9, .slice o9 m9 d9], .int .i64 0]) (by simp [results, Try.results30, go_sem, q0, q1, q2]) rfl ?_
  exact MakesE.of (MakesQ.lift hcq HQ.out (Box3.lt (by assumption)) (by omega) (B0.trans (BW.mono (by omega))) _ _ _)
/-- what a quotient with its error gives (by 0: 0, and the error) -/
def QuoRes (p q : Rat) (k : Nat) (w : World) (e : Ending) (w' : World) : Prop := ∃ s ao n ca bo m cb er, e = .returned (.tuple #[.agg #[.bool s, .slice ao n ca, .slice bo m cb], .int .i64 er]) ∧ CQ w.heap.size w' s ao n ca bo m cb (p / q) k ∧ (q = 0 ∧ er = 20 ∨ q ≠ 0 ∧ er = 0) ∧ Below w.heap.size w w'
theorem div_zero_rat (p : Rat) : p / 0 = 0 := by rw [Rat.div_def, Rat.inv_zero, Rat.mul_zero]
theorem Quo_any (s t : Bool) (ao bo po qo : Option Addr) (n ca m cb l cl j cj k : Nat) (p q : Rat) (w : World) (h1 : RQ w s ao n ca bo m cb p k) (h2 : RQ w t po l cl qo j cj q k) (hk : k + k + 1 ≤ 549755813888) :
    Calls Try.prog 31 #[.agg #[.bool s, .slice ao n ca, .slice bo m cb], .agg #[.bool t, .slice po l cl, .slice qo j cj]] w (QuoRes p q (k + k + 1) w) := by
  by_cases hq0 : q = 0
  · refine (Quo_zero s t ao bo po qo n ca m cb l cl j cj k p q w h1 h2 hk hq0).mono ?_
    rintro e w' ⟨rfl, hb⟩
    refine ⟨_, _, _, _, _, _, _, _, rfl, ?_, .inl ⟨hq0, rfl⟩, hb⟩
    rw [hq0, div_zero_rat]; exact cq_zero _ _ _ (by omega) hk
  · refine (Quo_q s t ao bo po qo n ca m cb l cl j cj k p q w h1 h2 hk hq0).mono ?_
    rintro e w' ⟨s', ao', n', ca', bo', m', cb', rfl, h, hb⟩
    exact ⟨_, _, _, _, _, _, _, _, rfl, h, .inr ⟨hq0, rfl⟩, hb⟩
theorem rQuo_any (s t : Bool) (ao bo po qo : Option Addr) (n ca m cb l cl j cj k : Nat) (p q : Rat) (w : World) (h1 : RQ w s ao n ca bo m cb p k) (h2 : RQ w t po l cl qo j cj q k) (hk : k + k + 1 ≤ 549755813888) :
    Calls Try.prog 30 #[.agg #[.bool s, .slice ao n ca, .slice bo m cb], .agg #[.bool t, .slice po l cl, .slice qo j cj]] w (QuoRes p q (k + k + 1) w) := by
  by_cases hq0 : q = 0
  · refine (rQuo_zero s t ao bo po qo n ca m cb l cl j cj k p q w h1 h2 hk hq0).mono ?_
    rintro e w' ⟨rfl, hb⟩
    refine ⟨_, _, _, _, _, _, _, _, rfl, ?_, .inl ⟨hq0, rfl⟩, hb⟩
    rw [hq0, div_zero_rat]; exact cq_zero _ _ _ (by omega) hk
  · refine (rQuo_q s t ao bo po qo n ca m cb l cl j cj k p q w h1 h2 hk hq0).mono ?_
    rintro e w' ⟨s', ao', n', ca', bo', m', cb', rfl, h, hb⟩
    exact ⟨_, _, _, _, _, _, _, _, rfl, h, .inr ⟨hq0, rfl⟩, hb⟩
end Go.Proofs.Ytdcnkebcpaelpaa
