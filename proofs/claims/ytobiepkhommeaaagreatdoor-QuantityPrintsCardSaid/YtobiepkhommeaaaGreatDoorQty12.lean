import Derived.Test.YtobiepkhommeaaaGreatDoorQtysB
import Derived.Test.YtobiepkhommeaaaGreatDoorQtysC
import Derived.Test.YtobiepkhommeaaaGreatDoorTxts6
import Derived.Test.YtobiepkhommeaaaGreatDoorRnds
import Derived.Test.YtobiepkhommeaaaGreatDoorBits
import Derived.Deep.RegionHeld3
/- Quantities: Format of the reference. -/
namespace Go.Proofs.YtobiepkhommeaaaGreatDoor
open Go.RowKit

/-- the rounded number is the number just if the unit divides -/
theorem cq_round {a z T : Nat} (hz : 0 < z) (hT : 0 < T) : cq (rnd false (rn (rq false a z)) (rq false a z).den T) (rq false a z) = 0 ↔ z ∣ a * T := by
  unfold rnd
  rw [cq_rq hT hz]
  generalize hR : ru (rn (rq false a z)) (rq false a z).den T = R
  have e : sg false (R * z) - sg false (a * T) = ((R * z : Nat) : Int) - ((a * T : Nat) : Int) := rfl
  rw [e]
  constructor
  · intro h
    have h' : (if ((R * z : Nat) : Int) - ((a * T : Nat) : Int) < 0 then (-1 : Int) else if ((R * z : Nat) : Int) - ((a * T : Nat) : Int) = 0 then 0 else 1) = 0 := h
    have h2 : ((R * z : Nat) : Int) - ((a * T : Nat) : Int) = 0 := by
      generalize ((R * z : Nat) : Int) - ((a * T : Nat) : Int) = y at h'
      split at h'
      · omega
      · split at h' <;> omega
    have h3 : R * z = a * T := by omega
    exact ⟨R, by rw [← h3, Nat.mul_comm]⟩
  · intro h
    have hr := ru_rq hz h
    rw [hR] at hr
    have h3 : R * z = a * T := by rw [hr]; exact Nat.div_mul_cancel h
    rw [h3]
    simp
theorem rFromUint_nat (c : Nat) (hc : c ≤ 1000000) (w : World) : Calls Tryz.prog 72 #[.int .u64 (c : Int)] w (Makes c w) := by
  have := rFromUint_any (c : Int) (by omega) (by omega) w
  rw [Int.toNat_natCast] at this
  exact this

set_option maxHeartbeats 8000000 in
set_option maxRecDepth 100000 in
theorem rFormat_bad (d c a : Int) (hb : QB d c a) (hy : qwhy d c a ≠ 0) (w : World) :
    Calls Tryz.prog 24 #[.agg #[.int .i64 d, .int .i64 c, .int .i64 a]] w fun e w' => e = .returned (.tuple #[.string (txtB (qfmt d c a)), .int .i64 (qwhy d c a)]) ∧ Below w.heap.size w w' := by
  rw [qfmt_bad hy]
  obtain ⟨y, hyq⟩ : ∃ y, y = qwhy d c a := ⟨_, rfl⟩
  have VAL : Hid (∀ w', Calls Tryz.prog 28 #[.agg #[.int .i64 d, .int .i64 c, .int .i64 a]] w' fun e w2 => e = .returned (.int .i64 y) ∧ Below w'.heap.size w' w2) := fun w' => by rw [hyq]; exact rValidate_q d c a hb w'
  rw [← hyq] at hy ⊢
  have B0 := below_new w (.cells #[.int .i64 d, .int .i64 c, .int .i64 a] 39)
  obtain ⟨W1, hW1⟩ : ∃ W, W = w.alloc (.cells #[.int .i64 d, .int .i64 c, .int .i64 a] 39) := ⟨_, rfl⟩
  rw [← hW1] at B0
  have HB0 := Lib.hid B0
  have hyb : (y != 0) = true := by simp [hy]
  clear hyq B0 hy hb
  go_enter Tryz.func24, Tryz.ntmps24
  go_wp2_with fail
  rw [← hW1]
  clear hW1
  refine (VAL.out _).mono ?_; rintro e W2 ⟨rfl, b2⟩
  have B2 := Lib.hid (HB0.out.trans (b2.mono HB0.out.size))
  clear b2
  go_wp2_with fail
  go_ret2
  exact ⟨rfl, B2.out⟩

set_option maxHeartbeats 16000000 in
set_option maxRecDepth 100000 in
theorem rFormat_ok (d : Int) (c a : Nat) (hy : qwhy d (c : Int) (a : Int) = 0) (w : World) :
    Calls Tryz.prog 24 #[.agg #[.int .i64 d, .int .i64 (c : Int), .int .i64 (a : Int)]] w fun e w' => e = .returned (.tuple #[.string (txtB (fmtQ d c a)), .int .i64 0]) ∧ Below w.heap.size w w' := by
  obtain ⟨h1, h2, h3, h4, h5, h6⟩ := qwhy_zero.1 hy
  have ha := qa_le h3 h5 h6
  obtain ⟨m1, m2, m3⟩ := for_mem h1 h2 h5
  obtain ⟨z1, z2, _, _, z5, z6⟩ := un_size m1
  have hnm := (un_name m1).2.2.2
  obtain ⟨u, hu⟩ : ∃ u, u = forU d (a : Int) := ⟨_, rfl⟩
  rw [← hu] at z1 z2 z5 z6 hnm
  obtain ⟨z, hz⟩ : ∃ z : Nat, z = u.size.toNat := ⟨_, rfl⟩
  rw [← hz] at z5 z6
  have hz0 : 0 < z := by omega
  obtain ⟨D, hD6, hD⟩ := least_exists (a := a) z5
  have hnum : numText a z = fbody D (Lib.decDigits (a * 10 ^ D / z)) := trim_least (by omega) hz0 (by omega) hD
  obtain ⟨N, hN⟩ : ∃ N, N = txtB u.name := ⟨_, rfl⟩
  obtain ⟨dm, hdm⟩ : ∃ x, x = u.dim := ⟨_, rfl⟩
  have hrv : rv u = .agg #[.int .i64 dm, .string N, .int .i64 (z : Int)] := by rw [hN, hdm, z6]; rfl
  obtain ⟨S, hS⟩ : ∃ S, S = txtB (numText a z) := ⟨_, rfl⟩
  have hSs : S.size ≤ 100 := by rw [hS, txtB_size]; exact numText_len a z (by omega) (by omega)
  have hNs : N.size ≤ 2 := by rw [hN, txtB_size]; exact hnm
  obtain ⟨q, hq⟩ : ∃ q, q = rq false a z := ⟨_, rfl⟩
  have VAL : Hid (∀ w', Calls Tryz.prog 28 #[.agg #[.int .i64 d, .int .i64 (c : Int), .int .i64 (a : Int)]] w' fun e w2 => e = .returned (.int .i64 0) ∧ Below w'.heap.size w' w2) := fun w' => by
    have := rValidate_q d (c : Int) (a : Int) ⟨by omega, by omega, by omega, by omega, by omega, by omega⟩ w'
    rwa [hy] at this
  have UF : Hid (∀ w', Calls Tryz.prog 67 #[.agg #[.int .i64 d, .int .i64 (c : Int), .int .i64 (a : Int)]] w' fun e w2 => e = .returned (.agg #[.int .i64 dm, .string N, .int .i64 (z : Int)]) ∧ Below w'.heap.size w' w2) := fun w' => by
    have := rchosen_v d (c : Int) (a : Int) h1 h2 h5 ha w'
    rwa [← hu, hrv] at this
  have FR : Hid (∀ w', Calls Tryz.prog 68 #[.int .i64 (a : Int), .int .i64 (z : Int)] w' (ErrRes ((z : Int) = 0) q 2 w')) := fun w' => by
    have h := rFraction_any (a : Int) (z : Int) (by omega) (by omega) (by omega) (by omega) w'
    rwa [decide_eq_false (show ¬ (a : Int) < 0 by omega), decide_eq_false (show ¬ (z : Int) < 0 by omega), Int.natAbs_natCast, Int.natAbs_natCast, show (false != false) = false from rfl, ← hq] at h
  have ZN : Hid (¬ (z : Int) = 0) := by unfold Hid; omega
  have HRS : Hid (rs q = false) := by unfold Hid; rw [hq, rs_rq hz0]; rfl
  have RD : Hid (∀ (w' : World) (i : Nat) ao n ca bo m cb, i ≤ 6 → RQ w' false ao n ca bo m cb q 2 → Calls Tryz.prog 70 #[.agg #[.bool false, .slice ao n ca, .slice bo m cb], .int .i64 (i : Int)] w' (MakesQ (rnd false (rn q) q.den (10 ^ i)) 302 w')) := fun w' i ao n ca bo m cb hi h => rRound_q false ao bo n ca m cb 2 i (i : Int) q w' h (by omega) (by omega)
  have CMZ : Hid (∀ i : Nat, cq (rnd false (rn q) q.den (10 ^ i)) q = 0 ↔ z ∣ a * 10 ^ i) := fun i => by rw [hq]; exact cq_round hz0 (Nat.pow_pos (by omega))
  have FM : Hid (∀ (w' : World) ao n ca bo m cb, RQ w' false ao n ca bo m cb q 2 → Calls Tryz.prog 40 #[.agg #[.bool false, .slice ao n ca, .slice bo m cb], .int .i64 (D : Int)] w' fun e w2 => e = .returned (.string S) ∧ Below w'.heap.size w' w2) := fun w' ao n ca bo m cb h => by
    have h2 := rqFormat_v false ao bo n ca m cb q (D : Int) D w' (RQ.up h (by omega) (by omega)) (by omega)
    rwa [show ru (rn q) q.den (10 ^ D) = a * 10 ^ D / z by rw [hq]; exact ru_rq hz0 hD.1, show ftext false (a * 10 ^ D / z) D = fbody D (Lib.decDigits (a * 10 ^ D / z)) from if_neg (by simp), ← hnum, ← hS] at h2
  obtain ⟨C, hC⟩ : ∃ C, C = txtB (Lib.decDigits c) := ⟨_, rfl⟩
  have hCs : C.size ≤ 3 := by
    rw [hC, txtB_size]
    by_cases k : c = 0
    · rw [k, dec_small (by omega)]; simp
    · have := dec_len_le 2 c (by omega); omega
  have FU : Hid (∀ w', Calls Tryz.prog 72 #[.int .u64 (c : Int)] w' (Makes c w')) := fun w' => rFromUint_nat c (by omega) w'
  have FT : Hid (∀ w' ao n ca, Num w' ao n ca c → Calls Tryz.prog 71 #[.slice ao n ca] w' fun e w2 => e = .returned (.string C) ∧ Below w'.heap.size w' w2) := fun w' ao n ca h => by
    rw [hC]; exact rFormat_num h (Nat.le_trans (rl_length 5 c (by omega)) (by omega))
  have SMC : Hid (Sm c 1) := ⟨by show c < pw 1; have : pw 1 = 4294967296 := rfl; omega, by omega⟩
  have OUT1 : Hid (¬ 1 < c → S ++ ⟨#[32]⟩ ++ N = txtB (fmtQ d c a)) := fun k => by
    have e : fmtQ d (c : Int) (a : Int) = numText a z ++ 32 :: u.name := by
      unfold fmtQ qtext
      rw [Int.toNat_natCast, Int.toNat_natCast, if_neg k, ← hu, ← hz]
    rw [e, hS, hN, show (⟨#[32]⟩ : ByteArray) = txtB [32] from rfl, txt_app, txt_app, List.append_assoc]
    rfl
  have OUT2 : Hid (1 < c → C ++ ⟨#[32, 120, 32]⟩ ++ (S ++ ⟨#[32]⟩ ++ N) = txtB (fmtQ d c a)) := fun k => by
    have e : fmtQ d (c : Int) (a : Int) = Lib.decDigits c ++ sepX ++ (numText a z ++ 32 :: u.name) := by
      unfold fmtQ qtext
      rw [Int.toNat_natCast, Int.toNat_natCast, if_pos k, ← hu, ← hz]
    rw [e, hS, hN, hC, show (⟨#[32]⟩ : ByteArray) = txtB [32] from rfl, show (⟨#[32, 120, 32]⟩ : ByteArray) = txtB sepX from rfl, txt_app, txt_app, txt_app, txt_app, List.append_assoc (numText a z)]
    rfl
  have LD : Hid (z ∣ a * 10 ^ D ∧ ∀ e, e < D → ¬ z ∣ a * 10 ^ e) := hD
  have B0 := below_new w (.cells #[.int .i64 d, .int .i64 (c : Int), .int .i64 (a : Int)] 39)
  have x0 := heap_alloc_new w (.cells #[.int .i64 d, .int .i64 (c : Int), .int .i64 (a : Int)] 39)
  obtain ⟨W1, hW1⟩ : ∃ W, W = w.alloc (.cells #[.int .i64 d, .int .i64 (c : Int), .int .i64 (a : Int)] 39) := ⟨_, rfl⟩
  rw [← hW1] at B0 x0
  have HB0 := Lib.hid B0
  have X0 := Lib.hid x0
  obtain ⟨k0, k1, k2, _⟩ := at_blockQ x0
  obtain ⟨ls, hls⟩ : ∃ n, n = S.size := ⟨_, rfl⟩
  obtain ⟨ln, hln⟩ : ∃ n, n = N.size := ⟨_, rfl⟩
  obtain ⟨lc, hlc⟩ : ∃ n, n = C.size := ⟨_, rfl⟩
  have hS2 : S.size = ls := hls.symm
  have hN2 : N.size = ln := hln.symm
  have hC2 : C.size = lc := hlc.symm
  rw [← hls] at hSs
  rw [← hln] at hNs
  rw [← hlc] at hCs
  have hq1 : ls + 1 ≤ 9223372036854775807 := by omega
  have hq2 : ls + 1 + ln ≤ 9223372036854775807 := by omega
  have hq3 : lc + 3 ≤ 9223372036854775807 := by omega
  have hq4 : lc + 3 + (ls + 1 + ln) ≤ 9223372036854775807 := by omega
  have hcw : IntKind.u64.wrap (c : Int) = (c : Int) := by rw [IntKind.wrap_u64]; omega
  clear hy h1 h2 h3 h4 h5 h6 ha m1 m2 m3 z1 z2 z5 z6 hnm hu hz hN hdm hrv hS hC x0 B0 hls hln hlc hz0 hD hnum hq
  go_enter Tryz.func24, Tryz.ntmps24
  go_wp2_with fail
  rw [← hW1]
  clear hW1
  refine (VAL.out _).mono ?_; rintro e W2 ⟨rfl, b2⟩
  have B2 := Lib.hid (HB0.out.trans (b2.mono HB0.out.size))
  have x2 := carry X0.out b2
  have X2 := Lib.hid x2
  clear b2 k0 k1 k2
  obtain ⟨k0, k1, k2, _⟩ := at_blockQ x2
  clear x2
  go_wp2_with fail
  refine (UF.out _).mono ?_; rintro e W4 ⟨rfl, b4⟩
  have n5 := below_new W4 (.cells #[.int .i64 dm, .string N, .int .i64 (z : Int)] 91)
  have y5 := heap_alloc_new W4 (.cells #[.int .i64 dm, .string N, .int .i64 (z : Int)] 91)
  have B5 := (B2.out.trans (b4.mono B2.out.size)).trans (n5.mono (Nat.le_trans B2.out.size b4.size))
  have x5 := carry (carry X2.out b4) n5
  obtain ⟨W5, hW5⟩ : ∃ W, W = W4.alloc (.cells #[.int .i64 dm, .string N, .int .i64 (z : Int)] 91) := ⟨_, rfl⟩
  obtain ⟨gu, hgu⟩ : ∃ g, g = W4.heap.size := ⟨_, rfl⟩
  rw [← hW5] at y5 B5 x5
  rw [← hgu] at y5
  have HB5 := Lib.hid B5
  have X5 := Lib.hid x5
  have Y5 := Lib.hid y5
  clear n5 B5 b4 k0 k1 k2
  obtain ⟨k0, k1, k2, _⟩ := at_blockQ x5
  obtain ⟨l0, l1, l2, _⟩ := at_blockQ y5
  clear x5 y5
  go_upto_region 5 with fail
  rw [← hW5, ← hgu]
  clear hW5 hgu
  go_wp2_with fail
  refine (FR.out _).mono ?_; rintro e W6 ⟨s2, a2, n2, c2, o2, m2, d2, er, rfl, cq2, hcc, b6⟩
  have her : er = 0 := by
    rcases hcc with ⟨k, _⟩ | ⟨_, k⟩
    · exact absurd k ZN.out
    · exact k
  subst her
  have hs2 : s2 = false := by rw [cq2.1, HRS.out]
  subst hs2
  have n7 := below_new W6 (.cells #[.bool false, .slice a2 n2 c2, .slice o2 m2 d2] 25)
  have z7 := heap_alloc_new W6 (.cells #[.bool false, .slice a2 n2 c2, .slice o2 m2 d2] 25)
  have x7 := carry (carry X5.out b6) n7
  have y7 := carry (carry Y5.out b6) n7
  have B7 := (HB5.out.trans (b6.mono HB5.out.size)).trans (n7.mono (Nat.le_trans HB5.out.size b6.size))
  have cq7 := (cq2.below n7).rq
  obtain ⟨W7, hW7⟩ : ∃ W, W = W6.alloc (.cells #[.bool false, .slice a2 n2 c2, .slice o2 m2 d2] 25) := ⟨_, rfl⟩
  obtain ⟨gx, hgx⟩ : ∃ g, g = W6.heap.size := ⟨_, rfl⟩
  rw [← hW7] at x7 y7 z7 B7 cq7
  rw [← hgx] at z7
  have KC : Hid (∀ w', Below W7.heap.size W7 w' → w'.cell? ⟨w.heap.size, 0, none⟩ = some (.int .i64 d) ∧ w'.cell? ⟨w.heap.size, 1, none⟩ = some (.int .i64 (c : Int)) ∧ w'.cell? ⟨w.heap.size, 2, none⟩ = some (.int .i64 (a : Int)) ∧ w'.cell? ⟨gu, 0, none⟩ = some (.int .i64 dm) ∧ w'.cell? ⟨gu, 1, none⟩ = some (.string N) ∧ w'.cell? ⟨gu, 2, none⟩ = some (.int .i64 (z : Int)) ∧ w'.cell? ⟨gx, 0, none⟩ = some (.bool false) ∧ w'.cell? ⟨gx, 1, none⟩ = some (.slice a2 n2 c2) ∧ w'.cell? ⟨gx, 2, none⟩ = some (.slice o2 m2 d2)) := fun w' hb => by
    obtain ⟨i0, i1, i2, _⟩ := at_blockQ (carry x7 hb)
    obtain ⟨j0, j1, j2, _⟩ := at_blockQ (carry y7 hb)
    obtain ⟨e0, e1, e2, _⟩ := at_blockQ (carry z7 hb)
    exact ⟨i0, i1, i2, j0, j1, j2, e0, e1, e2⟩
  have KQ : Hid (∀ w', Below W7.heap.size W7 w' → RQ w' false a2 n2 c2 o2 m2 d2 q 2) := fun w' hb => cq7.below hb
  have HB7 := Lib.hid B7
  clear n7 x7 y7 z7 B7 cq7 cq2 hcc b6 k0 k1 k2 l0 l1 l2
  go_upto_region 6 with fail
  rw [← hW7, ← hgx]
  clear hW7 hgx
  go_wp2_with fail
  go_loopw [8] (fun s8 wr => ∃ i : Nat, i ≤ D ∧ s8 = .int .i64 (i : Int) ∧ Hid (Below W7.heap.size W7 wr)) (fun s8 _ => D + 1 - (intOf s8).toNat)
  case atStart => exact ⟨0, by omega, rfl, Below.refl _ _⟩
  case round =>
    obtain ⟨i, hi, rfl, hwr⟩ := hrel
    have RDi := Lib.hid (fun w' (hb : Below W7.heap.size W7 w') => RD.out w' i _ _ _ _ _ _ (by omega) (KQ.out w' hb))
    obtain ⟨p, hp⟩ : ∃ p, p = rnd false (rn q) q.den (10 ^ i) := ⟨_, rfl⟩
    unfold Hid at RDi
    rw [← hp] at RDi
    have RDi := Lib.hid RDi
    obtain ⟨v, hv⟩ : ∃ v, v = cq p q := ⟨_, rfl⟩
    have hvz : v = 0 ↔ z ∣ a * 10 ^ i := by rw [hv, hp]; exact CMZ.out i
    have CMP : Hid (∀ w' s3 a3 n3 c3 o3 m3 d3, Below W7.heap.size W7 w' → CQ 0 w' s3 a3 n3 c3 o3 m3 d3 p 302 → Calls Tryz.prog 69 #[.agg #[.bool s3, .slice a3 n3 c3, .slice o3 m3 d3], .agg #[.bool false, .slice a2 n2 c2, .slice o2 m2 d2]] w' fun e w2 => e = .returned (.int .i64 v) ∧ Below w'.heap.size w' w2) := fun w' s3 a3 n3 c3 o3 m3 d3 hb h => by
      rw [hv]; exact rCompare_q s3 false a3 o3 a2 o2 n3 c3 m3 d3 n2 c2 m2 d2 302 p q w' h.rq (RQ.up (KQ.out w' hb) (by omega) (by omega)) (by omega)
    have K : Hid (∀ w', Below wr.heap.size wr w' → w'.cell? ⟨gx, 0, none⟩ = some (.bool false) ∧ w'.cell? ⟨gx, 1, none⟩ = some (.slice a2 n2 c2) ∧ w'.cell? ⟨gx, 2, none⟩ = some (.slice o2 m2 d2) ∧ Below wr.heap.size wr w') := fun w' hb => by
      obtain ⟨_, _, _, _, _, _, e0, e1, e2⟩ := KC.out w' (keepB hb hwr.out (Nat.le_refl _))
      exact ⟨e0, e1, e2, hb⟩
    clear hp hv
    have hvb : v = 0 ∨ ¬ v = 0 := by omega
    rcases hvb with hv0 | hv0
    · have hdv := hvz.1 hv0
      have hiD : i = D := by
        rcases Nat.lt_or_ge i D with k | k
        · exact absurd hdv (LD.out.2 i k)
        · omega
      subst hv0 hiD
      have FMD : Hid (∀ w', Below wr.heap.size wr w' → Calls Tryz.prog 40 #[.agg #[.bool false, .slice a2 n2 c2, .slice o2 m2 d2], .int .i64 (i : Int)] w' fun e w2 => e = .returned (.string S) ∧ Below w'.heap.size w' w2) := fun w' hb => FM.out w' _ _ _ _ _ _ (KQ.out w' (keepB hb hwr.out (Nat.le_refl _)))
      clear hvz hdv
      go_wp2_with fail
      go_region_held3 (fun w' => w'.cell? ⟨gx, 0, none⟩ = some (.bool false) ∧ w'.cell? ⟨gx, 1, none⟩ = some (.slice a2 n2 c2) ∧ w'.cell? ⟨gx, 2, none⟩ = some (.slice o2 m2 d2) ∧ Below wr.heap.size wr w')
        (first | exact K.out _ (Below.refl _ _).drew | exact K.out _ (Below.refl _ _) | exact K.out _ (keepB b3 (by assumption) (Nat.le_refl _)) | exact K.out _ (keepB b4 (by assumption) (Nat.le_refl _)))
        (first
          | (go_at_call 70; go_split_ands; refine (RDi.out _ (keepB (by assumption) hwr.out (Nat.le_refl _))).mono ?_; rintro e w3 ⟨s3, a3, n3, c3, o3, m3, d3, rfl, cq3, b3⟩)
          | (go_at_call 69; go_split_ands; refine (CMP.out _ _ _ _ _ _ _ _ (keepB (by assumption) hwr.out (Nat.le_refl _)) (cq3.mono (Nat.zero_le _))).mono ?_; rintro e w4 ⟨rfl, b4⟩; have BV : Below wr.heap.size wr w4 := keepB b4 (by assumption) (Nat.le_refl _)))
      have hwr2 : Hid (Below W7.heap.size W7 w4) := keepB BV hwr.out (Nat.le_refl _)
      go_upto_region 9 with fail
      refine wp_region_held_drew (S := fun w' => Below w4.heap.size w4 w') (by kernel_rfl) ((Below.refl _ _).drew) (fun hH => ?_)
      refine wpAnyH_take (i := 0) (v := (.agg #[.bool false, .slice a2 n2 c2, .slice o2 m2 d2])) rfl (by kernel_rfl) (by kernel_rfl) (by kernel_rfl) (fun _ _ _ h => h) (Or.inl ⟨by kernel_rfl, ?_⟩) hH ?_
      · intro w1 hB
        obtain ⟨j0, j1, j2, l0, l1, l2, x0, x1, x2⟩ := KC.out _ (keepB hB hwr2.out (Nat.le_refl _))
        go_simp
      change wpAnyH _ _ _ _ _ _ _ (Act.put _ (some 33) _) _
      try simp only [Act.put, List.setIfInBounds_toArray, List.set_cons_zero, List.set_cons_succ]
      refine wpAnyH_take (i := 1) (v := (.int .i64 (i : Int))) rfl (by kernel_rfl) (by kernel_rfl) (by kernel_rfl) (fun _ _ _ h => h) (Or.inl ⟨by kernel_rfl, ?_⟩) hH ?_
      · intro w1 hB
        go_simp
      change wpAnyH _ _ _ _ _ _ _ (Act.put _ (some 34) _) _
      try simp only [Act.put, List.setIfInBounds_toArray, List.set_cons_zero, List.set_cons_succ]
      refine wpAnyH_take (i := 4) (v := (.pointer (some ⟨gu, 1, none⟩))) rfl (by kernel_rfl) (by kernel_rfl) (by kernel_rfl) (fun _ _ _ h => h) (Or.inl ⟨by kernel_rfl, ?_⟩) hH ?_
      · intro w1 hB
        go_simp
      change wpAnyH _ _ _ _ _ _ _ (Act.put _ (some 37) _) _
      try simp only [Act.put, List.setIfInBounds_toArray, List.set_cons_zero, List.set_cons_succ]
      refine wpAnyH_take (i := 5) (v := (.string N)) rfl (by kernel_rfl) (by kernel_rfl) (by kernel_rfl) (fun _ _ _ h => h) (Or.inl ⟨by kernel_rfl, ?_⟩) hH ?_
      · intro w1 hB
        obtain ⟨j0, j1, j2, l0, l1, l2, x0, x1, x2⟩ := KC.out _ (keepB hB hwr2.out (Nat.le_refl _))
        go_simp
      change wpAnyH _ _ _ _ _ _ _ (Act.put _ (some 38) _) _
      try simp only [Act.put, List.setIfInBounds_toArray, List.set_cons_zero, List.set_cons_succ]
      refine wpAnyH_ready (rs := [2]) (by kernel_rfl) (by simp) ?_
      refine AllReadyH.cons rfl (fun K hK => ?_) AllReadyH.nil
      go_simp
      refine (FMD.out _ (keepB hH BV (Nat.le_refl _))).mono ?_
      rintro e V2 ⟨rfl, v2⟩
      try go_simp
      refine hK.out _ _ (keepB v2 hH (Nat.le_refl _)) (fun hH2 => ?_)
      clear hK K
      try simp only [Act.put, List.setIfInBounds_toArray, List.set_cons_zero, List.set_cons_succ]
      refine wpAnyH_take (i := 3) (v := (.string (S ++ ⟨#[32]⟩))) rfl (by kernel_rfl) (by kernel_rfl) (by kernel_rfl) (fun _ _ _ h => h) (Or.inl ⟨by kernel_rfl, ?_⟩) hH2 ?_
      · intro w1 hB
        go_simp
      change wpAnyH _ _ _ _ _ _ _ (Act.put _ (some 36) _) _
      try simp only [Act.put, List.setIfInBounds_toArray, List.set_cons_zero, List.set_cons_succ]
      refine wpAnyH_take (i := 6) (v := (.string (S ++ ⟨#[32]⟩ ++ N))) rfl (by kernel_rfl) (by kernel_rfl) (by kernel_rfl) (fun _ _ _ h => h) (Or.inl ⟨by kernel_rfl, ?_⟩) hH2 ?_
      · intro w1 hB
        go_simp
      change wpAnyH _ _ _ _ _ _ _ (Act.put _ (some 39) _) _
      try simp only [Act.put, List.setIfInBounds_toArray, List.set_cons_zero, List.set_cons_succ]
      refine wpAnyH_take (i := 7) (v := (.string (S ++ ⟨#[32]⟩ ++ N))) rfl (by kernel_rfl) (by kernel_rfl) (by kernel_rfl) (fun _ _ _ h => h) (Or.inl ⟨by kernel_rfl, ?_⟩) hH2 ?_
      · intro w1 hB
        go_simp
      change wpAnyH _ _ _ _ _ _ _ (Act.put _ (some 9) _) _
      try simp only [Act.put, List.setIfInBounds_toArray, List.set_cons_zero, List.set_cons_succ]
      refine wpAnyH_done (by kernel_rfl) ?_ _
      have B9 := Lib.hid (HB7.out.trans ((keepB hH2 hwr2.out (Nat.le_refl _)).mono HB7.out.size))
      obtain ⟨k0, k1, k2, l0, l1, l2, _⟩ := KC.out _ (keepB hH2 hwr2.out (Nat.le_refl _))
      by_cases hc1 : 1 < c
      · have hci : (1 : Int) < (c : Int) := by omega
        have HO := Lib.hid (OUT2.out hc1)
        go_wp2_with fail
        refine (FU.out _).mono ?_; rintro e w7 ⟨a7, c7, rfl, f7, b7⟩
        have B10 := Lib.hid (B9.out.trans (b7.mono B9.out.size))
        have FTC := Lib.hid (FT.out _ _ _ _ (Num.of_fr f7 SMC.out))
        clear f7 b7 k0 k1 k2 l0 l1 l2
        go_wp2_with fail
        refine FTC.out.mono ?_; rintro e w8 ⟨rfl, b8⟩
        have B11 := Lib.hid (B10.out.trans (b8.mono B10.out.size))
        clear b8
        go_wp2_with fail
        go_ret2
        exact ⟨ret_se HO.out rfl, B11.out⟩
      · have hci : ¬ (1 : Int) < (c : Int) := by omega
        have HO := Lib.hid (OUT1.out hc1)
        go_wp2_with fail
        go_ret2
        exact ⟨ret_se HO.out rfl, B9.out⟩
    · have hvn : (v != 0) = true := by simp [hv0]
      have hlt : i < D := by
        rcases Nat.lt_or_ge i D with k | k
        · exact k
        · obtain rfl : i = D := by omega
          exact absurd (hvz.2 LD.out.1) hv0
      clear hvz hv0
      go_wp2_with fail
      go_region_held3 (fun w' => w'.cell? ⟨gx, 0, none⟩ = some (.bool false) ∧ w'.cell? ⟨gx, 1, none⟩ = some (.slice a2 n2 c2) ∧ w'.cell? ⟨gx, 2, none⟩ = some (.slice o2 m2 d2) ∧ Below wr.heap.size wr w')
        (first | exact K.out _ (Below.refl _ _).drew | exact K.out _ (Below.refl _ _) | exact K.out _ (keepB b3 (by assumption) (Nat.le_refl _)) | exact K.out _ (keepB b4 (by assumption) (Nat.le_refl _)))
        (first
          | (go_at_call 70; go_split_ands; refine (RDi.out _ (keepB (by assumption) hwr.out (Nat.le_refl _))).mono ?_; rintro e w3 ⟨s3, a3, n3, c3, o3, m3, d3, rfl, cq3, b3⟩)
          | (go_at_call 69; go_split_ands; refine (CMP.out _ _ _ _ _ _ _ _ (keepB (by assumption) hwr.out (Nat.le_refl _)) (cq3.mono (Nat.zero_le _))).mono ?_; rintro e w4 ⟨rfl, b4⟩; have BV : Below wr.heap.size wr w4 := keepB b4 (by assumption) (Nat.le_refl _)))
      have HN : Hid (Below W7.heap.size W7 w4) := keepB BV hwr.out (Nat.le_refl _)
      go_wp2_with fail
      go_roundw
      case rel => exact ⟨i + 1, by omega, by go_num, HN⟩
      case measure => simp [intOf]; omega
theorem rFormat_q (d c a : Int) (hb : QB d c a) (w : World) :
    Calls Tryz.prog 24 #[.agg #[.int .i64 d, .int .i64 c, .int .i64 a]] w fun e w' => e = .returned (.tuple #[.string (txtB (qfmt d c a)), .int .i64 (qwhy d c a)]) ∧ Below w.heap.size w w' := by
  by_cases hy : qwhy d c a = 0
  · obtain ⟨h1, h2, h3, h4, h5, h6⟩ := qwhy_zero.1 hy
    obtain ⟨c, rfl⟩ : ∃ n : Nat, c = (n : Int) := ⟨c.toNat, by omega⟩
    obtain ⟨a, rfl⟩ : ∃ n : Nat, a = (n : Int) := ⟨a.toNat, by omega⟩
    rw [qfmt_ok hy, hy]
    exact rFormat_ok d c a hy w
  · exact rFormat_bad d c a hb hy w
end Go.Proofs.YtobiepkhommeaaaGreatDoor
