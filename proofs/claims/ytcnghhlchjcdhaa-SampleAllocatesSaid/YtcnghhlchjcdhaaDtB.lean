import Derived.Test.YtcnghhlchjcdhaaDrF
import Derived.Test.YtcnghhlchjcdhaaRDiv3
import Derived.Test.YtcnghhlchjcdhaaDtA
import Derived.Test.YtcnghhlchjcdhaaSmpAw
import Derived.Test.YtcnghhlchjcdhaaDrE
import Derived.Test.YtcnghhlchjcdhaaDrB
import Derived.Test.YtcnghhlchjcdhaaRatsD
/- The reference's Floor, at a quotient of integers that is not negative. -/
namespace Go.Proofs.Ytcnghhlchjcdhaa.Dr
open Go.RowKit Go.Sort C6

theorem field_nm (s : Bool) (a : Option Addr) (n c : Nat) (o : Option Addr) (m d : Nat) (w : World) : Sem.run Try.prog (Instr.field 33 (Value.agg #[.bool s, .slice a n c, .slice o m d]) 1) w = Result.ok (.slice a n c) w := by kernel_rfl
theorem cq_lowerD {B : Nat} {w : World} {s : Bool} {ao : Option Addr} {n ca : Nat} {bo : Option Addr} {m cb : Nat} {q : Rat} {k : Nat} (h : CQ B w s ao n ca bo m cb q k) : ∃ D, Num w bo m cb D ∧ dn D = q.den := by
  obtain ⟨_, _, h3, _, h5, _, h7⟩ := h
  exact ⟨val (dd q.den), ⟨dd q.den, h3, h5.rd, rfl, Nat.le_trans (dd_len _) h7.len⟩, val_dd (den_pos q)⟩
theorem cq_upperD {B : Nat} {w : World} {s : Bool} {ao : Option Addr} {n ca : Nat} {bo : Option Addr} {m cb : Nat} {q : Rat} {k : Nat} (h : CQ B w s ao n ca bo m cb q k) : Num w ao n ca (rn q) := by
  obtain ⟨_, h2, _, h4, _, h6, _⟩ := h
  rw [h2]; exact Num.of_fr h4 h6
set_option maxHeartbeats 4000000 in
set_option maxRecDepth 100000 in
theorem rDenominator_d (s : Bool) (ao bo : Option Addr) (n ca m cb k : Nat) (q : Rat) (w : World) (h : RQ w s ao n ca bo m cb q k) :
    Calls Try.prog 59 #[.agg #[.bool s, .slice ao n ca, .slice bo m cb]] w (Makes q.den w) := by
  have B0 := below_new w (.cells #[.bool s, .slice ao n ca, .slice bo m cb] 33)
  have Z0 := heap_alloc_new w (.cells #[.bool s, .slice ao n ca, .slice bo m cb] 33)
  obtain ⟨W1, hW1⟩ : ∃ W, W = w.alloc (.cells #[.bool s, .slice ao n ca, .slice bo m cb] 33) := ⟨_, rfl⟩
  rw [← hW1] at B0 Z0
  have NC : Hid (∀ w', Below w.heap.size w w' → Calls Try.prog 58 #[.agg #[.bool s, .slice ao n ca, .slice bo m cb]] w' (MakesQ q k w')) := fun w' hb => rNormalize_q s ao bo n ca m cb k q w' (h.below hb)
  obtain ⟨x0, x1, x2, _⟩ := at_block Z0
  clear h Z0
  go_enter Try.func59, Try.ntmps59
  go_wp2_with fail
  rw [← hW1]
  clear hW1
  refine (NC.out W1 B0).mono ?_; rintro e W2 ⟨s5, a5, n5, c5, o5, m5, d5, rfl, cq5, b5⟩
  have B2 := B0.trans (b5.mono B0.size)
  obtain ⟨D, hD, hdn⟩ := cq_lowerD cq5
  clear cq5 b5 x0 x1 x2
  go_wp2_with fail
  have DC := rden_num s5 a5 o5 n5 c5 m5 d5 D W2 hD
  rw [hdn] at DC
  refine DC.mono ?_; rintro e W3 ⟨a6, c6, rfl, f6, b6⟩
  have HF := Lib.hid (f6.mono B2.size)
  have HB := Lib.hid (B2.trans (b6.mono B2.size))
  clear DC hD hdn f6 b6 B2 B0
  go_wp2_with fail
  go_ret
  exact ⟨a6, c6, rfl, HF.out, HB.out⟩
theorem div_gcd (N D : Nat) (hD : 0 < D) : (N / Nat.gcd N D) / (D / Nat.gcd N D) = N / D := by
  have hg : 0 < Nat.gcd N D := Nat.gcd_pos_of_pos_right N hD
  obtain ⟨a, ha⟩ := Nat.gcd_dvd_left N D
  obtain ⟨b, hb⟩ := Nat.gcd_dvd_right N D
  obtain ⟨g, hgg⟩ : ∃ g, g = Nat.gcd N D := ⟨_, rfl⟩
  rw [← hgg] at ha hb hg ⊢
  rw [ha, hb, Nat.mul_div_cancel_left _ hg, Nat.mul_div_cancel_left _ hg, Nat.mul_div_mul_left _ _ hg]
theorem floor_fq {p A : Int} (hp : 0 ≤ p) (hA : 1 ≤ A) : rn (fq p A) / (fq p A).den = (p / A).toNat := by
  unfold fq
  rw [rn_rq (by omega), rd_rq (by omega), div_gcd _ _ (by omega)]
  obtain ⟨P, rfl⟩ : ∃ P : Nat, p = (P : Int) := ⟨p.toNat, by omega⟩
  obtain ⟨D, rfl⟩ : ∃ D : Nat, A = (D : Int) := ⟨A.toNat, by omega⟩
  rw [Int.natAbs_natCast, Int.natAbs_natCast, ← Int.natCast_ediv, Int.toNat_natCast]

set_option maxHeartbeats 8000000 in
set_option maxRecDepth 100000 in
theorem Floor_v (s : Bool) (ao bo : Option Addr) (n ca m cb k : Nat) (p A : Int) (hA : 1 ≤ A) (hp : 0 ≤ p ∧ p ≤ 4611686018427387904) (w : World) (h : RQ w s ao n ca bo m cb (fq p A) k) :
    Calls Try.prog 35 #[.agg #[.bool s, .slice ao n ca, .slice bo m cb]] w (MakesQ (fq (p / A) 1) 2 w) := by
  have fl := floor_fq hp.1 hA
  obtain ⟨q, hq⟩ : ∃ q, q = fq p A := ⟨_, rfl⟩
  rw [← hq] at h fl
  obtain ⟨F, hF⟩ : ∃ F, F = (p / A).toNat := ⟨_, rfl⟩
  have hF0 : 0 ≤ p / A := Int.ediv_nonneg hp.1 (by omega)
  have hFle : p / A ≤ p := Int.ediv_le_self _ hp.1
  have SF : Hid (Sm F 2) := sm2 (by omega)
  have HV : Hid (fq (p / A) 1 = rq false F 1) := by
    unfold Hid fq
    rw [decide_eq_false (show ¬ p / A < 0 by omega), show (p / A).natAbs = F by omega]
    rfl
  unfold Hid at HV
  rw [HV]
  rw [← hF] at fl
  clear HV hq hF hF0 hFle hA hp
  obtain ⟨W1, hW1⟩ : ∃ W, W = w.alloc (.cells #[.bool s, .slice ao n ca, .slice bo m cb] 33) := ⟨_, rfl⟩
  obtain ⟨W2, hW2⟩ : ∃ W, W = W1.alloc (.cells #[.bool false, .slice none 0 0, .slice none 0 0] 33) := ⟨_, rfl⟩
  obtain ⟨g, hg⟩ : ∃ g, g = w.heap.size + 1 := ⟨_, rfl⟩
  have b1 : Below w.heap.size w W1 := by rw [hW1]; exact below_new _ _
  have b2 : Below W1.heap.size W1 W2 := by rw [hW2]; exact below_new _ _
  have s1 : W1.heap.size = w.heap.size + 1 := by rw [hW1]; exact World.size_alloc _ _
  have x1 : W1.heap[w.heap.size]? = some (.cells #[.bool s, .slice ao n ca, .slice bo m cb] 33 (0, 0)) := by rw [hW1]; exact heap_alloc_new _ _
  have x2 := carry x1 b2
  have X2 : Hid (W2.heap[g]? = some (.cells #[.bool false, .slice none 0 0, .slice none 0 0] 33 (0, 0))) := by rw [hg, ← s1, hW2]; exact heap_alloc_new _ _
  have HB2 : Hid (Below w.heap.size w W2) := b1.trans (b2.mono b1.size)
  have S2 : Hid (W2.heap.size = g + 1) := by unfold Hid; rw [hW2, World.size_alloc, s1, hg]
  have K1 : Hid (∀ w', Below W2.heap.size W2 w' → w'.cell? ⟨w.heap.size, 0, none⟩ = some (.bool s) ∧ w'.cell? ⟨w.heap.size, 1, none⟩ = some (.slice ao n ca) ∧ w'.cell? ⟨w.heap.size, 2, none⟩ = some (.slice bo m cb)) := fun w' hb => by
    obtain ⟨k0, k1, k2, _⟩ := at_block (carry x2 hb)
    exact ⟨k0, k1, k2⟩
  have HR : Hid (∀ w', Below W2.heap.size W2 w' → RQ w' s ao n ca bo m cb q k) := fun w' hb => (h.below HB2.out).below hb
  have NC : Hid (∀ w', Below W2.heap.size W2 w' → Calls Try.prog 58 #[.agg #[.bool s, .slice ao n ca, .slice bo m cb]] w' (MakesQ q k w')) := fun w' hb => rNormalize_q s ao bo n ca m cb k q w' (HR.out w' hb)
  obtain ⟨nD, hnD⟩ : ∃ n, n = (dig q.den).length := ⟨_, rfl⟩
  have hden := den_pos q
  have SD : Hid (Sm q.den k) := by
    obtain ⟨N0, D0, _, _, _, _, e0, sd0⟩ := h
    rw [← e0]
    exact Sm.of_le sd0 (rq_le (dn_pos D0)).2
  have DC : Hid (∀ w', Below W2.heap.size W2 w' → Calls Try.prog 59 #[.agg #[.bool s, .slice ao n ca, .slice bo m cb]] w' fun e w'' => ∃ a c, e = .returned (.slice a nD c) ∧ Num w'' a nD c q.den ∧ Below w'.heap.size w' w'') := fun w' hb => (rDenominator_d s ao bo n ca m cb k q w' (HR.out w' hb)).mono (by
    rintro e w'' ⟨a, c, rfl, f, b⟩
    rw [hnD]
    exact ⟨a, c, rfl, Num.of_fr f SD.out, b⟩)
  obtain ⟨nQ, hnQ⟩ : ∃ n, n = (dig F).length := ⟨_, rfl⟩
  obtain ⟨nR, hnR⟩ : ∃ n, n = (dig (rn q % q.den)).length := ⟨_, rfl⟩
  have DV : Hid (∀ w' a n' c b m' d, Num w' a n' c (rn q) → Num w' b m' d q.den → Calls Try.prog 57 #[.slice a n' c, .slice b m' d] w' fun e w'' => ∃ qo qc ro rc, e = .returned (.tuple #[.slice qo nQ qc, .slice ro nR rc, .bool true]) ∧ Fr w'.heap.size w'' qo qc (dig F) ∧ Fr w'.heap.size w'' ro rc (dig (rn q % q.den)) ∧ Below w'.heap.size w' w'') := fun w' a n' c b m' d h1 h2 => by
    rw [hnQ, hnR]
    exact rDivide_numD h1 h2 hden fl rfl
  have HNQ := Lib.hid hnQ
  have hgw : Hid (w.heap.size ≤ g) := by unfold Hid; omega
  clear hnD hnQ hnR hden fl b1 b2 s1 x1 x2 HR
  go_enter Try.func35, Try.ntmps35
  go_upto_region 1 with fail
  rw [← hg, ← hW1, ← hW2]
  clear hW1 hW2 hg
  refine wp_region_held_drew (S := fun w' => Below W2.heap.size W2 w') (by kernel_rfl) ((Below.refl _ _).drew) (fun hH => ?_)
  refine wpAnyH_take (i := 0) (v := (.agg #[.bool s, .slice ao n ca, .slice bo m cb])) rfl (by kernel_rfl) (by kernel_rfl) (by kernel_rfl) (fun _ _ _ h => h) (Or.inl ⟨by kernel_rfl, ?_⟩) hH ?_
  · intro w1 hB
    obtain ⟨k0, k1, k2⟩ := K1.out w1 hB
    go_simp
  change wpAnyH _ _ _ _ _ _ _ (Act.put _ (some 7) _) _
  try simp only [Act.put, List.setIfInBounds_toArray, List.set_cons_zero, List.set_cons_succ]
  refine wpAnyH_take (i := 3) (v := (.agg #[.bool s, .slice ao n ca, .slice bo m cb])) rfl (by kernel_rfl) (by kernel_rfl) (by kernel_rfl) (fun _ _ _ h => h) (Or.inl ⟨by kernel_rfl, ?_⟩) hH ?_
  · intro w1 hB
    obtain ⟨k0, k1, k2⟩ := K1.out w1 hB
    go_simp
  change wpAnyH _ _ _ _ _ _ _ (Act.put _ (some 10) _) _
  try simp only [Act.put, List.setIfInBounds_toArray, List.set_cons_zero, List.set_cons_succ]
  refine wpAnyH_ready (rs := [1]) (by kernel_rfl) (by simp) ?_
  refine AllReadyH.cons rfl (fun K hK => ?_) AllReadyH.nil
  go_simp
  refine (NC.out _ hH).mono ?_
  rintro e V1 ⟨s5, a5, n5, c5, o5, m5, d5, rfl, cq5, v1⟩
  try go_simp
  refine hK.out _ _ (keepB v1 hH (Nat.le_refl _)) (fun hH1 => ?_)
  clear hK K
  try simp only [Act.put, List.setIfInBounds_toArray, List.set_cons_zero, List.set_cons_succ]
  refine wpAnyH_take (i := 2) (v := (.slice a5 n5 c5)) rfl (by kernel_rfl) (by kernel_rfl) (by kernel_rfl) (fun _ _ _ h => h) (Or.inl ⟨by kernel_rfl, ?_⟩) hH1 ?_
  · intro w1 hB
    go_simp
    try simp only [field_nm, Result.andThen_ok]
    try go_simp
  change wpAnyH _ _ _ _ _ _ _ (Act.put _ (some 9) _) _
  try simp only [Act.put, List.setIfInBounds_toArray, List.set_cons_zero, List.set_cons_succ]
  refine wpAnyH_ready (rs := [4]) (by kernel_rfl) (by simp) ?_
  refine AllReadyH.cons rfl (fun K hK => ?_) AllReadyH.nil
  go_simp
  refine (DC.out _ hH1).mono ?_
  rintro e V4 ⟨a6, c6, rfl, f6, v4⟩
  try go_simp
  refine hK.out _ _ (keepB v4 hH1 (Nat.le_refl _)) (fun hH4 => ?_)
  clear hK K
  try simp only [Act.put, List.setIfInBounds_toArray, List.set_cons_zero, List.set_cons_succ]
  refine wpAnyH_ready (rs := [5]) (by kernel_rfl) (by simp) ?_
  refine AllReadyH.cons rfl (fun K hK => ?_) AllReadyH.nil
  go_simp
  refine (DV.out _ _ _ _ _ _ _ ((cq_upperD cq5).below v4) f6).mono ?_
  rintro e V5 ⟨qo, qc, ro, rc, rfl, fq5, _, v5⟩
  try go_simp
  refine hK.out _ _ (keepB v5 hH4 (Nat.le_refl _)) (fun hH5 => ?_)
  clear hK K
  try simp only [Act.put, List.setIfInBounds_toArray, List.set_cons_zero, List.set_cons_succ]
  refine wpAnyH_take (i := 6) (v := (.tuple #[.slice qo nQ qc, .slice ro nR rc, .bool true])) rfl (by kernel_rfl) (by kernel_rfl) (by kernel_rfl) (fun _ _ _ h => h) (Or.inl ⟨by kernel_rfl, ?_⟩) hH5 ?_
  · intro w1 hB
    go_simp
  change wpAnyH _ _ _ _ _ _ _ (Act.put _ (some 6) _) _
  try simp only [Act.put, List.setIfInBounds_toArray, List.set_cons_zero, List.set_cons_succ]
  refine wpAnyH_take (i := 7) (v := (.slice qo nQ qc)) rfl (by kernel_rfl) (by kernel_rfl) (by kernel_rfl) (fun _ _ _ h => h) (Or.inl ⟨by kernel_rfl, ?_⟩) hH5 ?_
  · intro w1 hB
    go_simp
  change wpAnyH _ _ _ _ _ _ _ (Act.put _ (some 13) _) _
  try simp only [Act.put, List.setIfInBounds_toArray, List.set_cons_zero, List.set_cons_succ]
  refine wpAnyH_take (i := 10) (v := (.slice qo nQ qc)) rfl (by kernel_rfl) (by kernel_rfl) (by kernel_rfl) (fun _ _ _ h => h) (Or.inl ⟨by kernel_rfl, ?_⟩) hH5 ?_
  · intro w1 hB
    go_simp
  change wpAnyH _ _ _ _ _ _ _ (Act.put _ (some 3) _) _
  try simp only [Act.put, List.setIfInBounds_toArray, List.set_cons_zero, List.set_cons_succ]
  refine wpAnyH_take (i := 8) (v := (.slice ro nR rc)) rfl (by kernel_rfl) (by kernel_rfl) (by kernel_rfl) (fun _ _ _ h => h) (Or.inl ⟨by kernel_rfl, ?_⟩) hH5 ?_
  · intro w1 hB
    go_simp
  change wpAnyH _ _ _ _ _ _ _ (Act.put _ (some 14) _) _
  try simp only [Act.put, List.setIfInBounds_toArray, List.set_cons_zero, List.set_cons_succ]
  refine wpAnyH_take (i := 11) (v := (.slice ro nR rc)) rfl (by kernel_rfl) (by kernel_rfl) (by kernel_rfl) (fun _ _ _ h => h) (Or.inl ⟨by kernel_rfl, ?_⟩) hH5 ?_
  · intro w1 hB
    go_simp
  change wpAnyH _ _ _ _ _ _ _ (Act.put _ (some 4) _) _
  try simp only [Act.put, List.setIfInBounds_toArray, List.set_cons_zero, List.set_cons_succ]
  refine wpAnyH_take (i := 9) (v := (.bool true)) rfl (by kernel_rfl) (by kernel_rfl) (by kernel_rfl) (fun _ _ _ h => h) (Or.inl ⟨by kernel_rfl, ?_⟩) hH5 ?_
  · intro w1 hB
    go_simp
  change wpAnyH _ _ _ _ _ _ _ (Act.put _ (some 15) _) _
  try simp only [Act.put, List.setIfInBounds_toArray, List.set_cons_zero, List.set_cons_succ]
  refine wpAnyH_take (i := 12) (v := (.bool true)) rfl (by kernel_rfl) (by kernel_rfl) (by kernel_rfl) (fun _ _ _ h => h) (Or.inl ⟨by kernel_rfl, ?_⟩) hH5 ?_
  · intro w1 hB
    go_simp
  change wpAnyH _ _ _ _ _ _ _ (Act.put _ (some 5) _) _
  try simp only [Act.put, List.setIfInBounds_toArray, List.set_cons_zero, List.set_cons_succ]
  refine wpAnyH_done (by kernel_rfl) ?_ _
  have BV : Below W2.heap.size W2 V5 := hH5
  have C5 : Hid (CQ W2.heap.size V5 false qo nQ qc none 0 0 (rq false F 1) 2) := by
    have hs1 : W2.heap.size ≤ V4.heap.size := (hH4 : Below W2.heap.size W2 V4).size
    have h5 := cq_of (B := W2.heap.size) (w := V5) (s := false) (N := F) (D := 1) (k := 2) (n := nQ) (m := 0) (ao := qo) (ca := qc) (bo := none) (cb := 0) (by omega) (by rw [Nat.gcd_one_right, Nat.div_one]; exact HNQ.out) (by rw [Nat.gcd_one_right, Nat.div_one]; exact fq5.mono hs1) (by rw [Nat.gcd_one_right, Nat.div_one]; rfl) (by rw [Nat.gcd_one_right, Nat.div_one]; exact Fr.nil _ _) SF.out (sm2 (by omega))
    unfold Hid
    simpa using h5
  have HBV := Lib.hid (HB2.out.trans (BV.mono HB2.out.size))
  have x5 := carry X2.out BV
  obtain ⟨p0, p1, p2, z0, z1, z2⟩ := at_block x5
  clear BV x5 fq5 cq5 f6 K1 NC DC DV X2 HB2
  go_wp2_with fail
  refine bodyPost_ret (v := .agg #[.bool false, .slice qo nQ qc, .slice none 0 0]) (by simp [results, Try.results35, go_sem, p0, p1, p2]) rfl ?_
  exact MakesQ.lift C5.out rfl (by rw [S2.out]; omega) hgw.out HBV.out _ _ _
end Go.Proofs.Ytcnghhlchjcdhaa.Dr
/- The reference's Floor, at a quotient of integers of any size that is not negative. -/
namespace Go.Proofs.Ytcnghhlchjcdhaa.Dr
open Go.RowKit Go.Sort C6
set_option maxHeartbeats 8000000 in
set_option maxRecDepth 100000 in
theorem Floor_k (s : Bool) (ao bo : Option Addr) (n ca m cb k : Nat) (p A : Int) (hA : 1 ≤ A) (hp : 0 ≤ p) (w : World) (h : RQ w s ao n ca bo m cb (fq p A) k) :
    Calls Try.prog 35 #[.agg #[.bool s, .slice ao n ca, .slice bo m cb]] w (MakesQ (fq (p / A) 1) k w) := by
  have fl := floor_fq hp hA
  obtain ⟨q, hq⟩ : ∃ q, q = fq p A := ⟨_, rfl⟩
  rw [← hq] at h fl
  obtain ⟨F, hF⟩ : ∃ F, F = (p / A).toNat := ⟨_, rfl⟩
  have hF0 : 0 ≤ p / A := Int.ediv_nonneg hp (by omega)
  have SF : Hid (Sm F k) := by
    have hb : F ≤ rn q := by rw [hF, ← fl]; exact Nat.div_le_self _ _
    obtain ⟨N0, D0, _, _, sn0, _, e0, _⟩ := h
    rw [← e0] at hb
    exact Sm.of_le sn0 (Nat.le_trans hb (rq_le (dn_pos D0)).1)
  have HV : Hid (fq (p / A) 1 = rq false F 1) := by
    unfold Hid fq
    rw [decide_eq_false (show ¬ p / A < 0 by omega), show (p / A).natAbs = F by omega]
    rfl
  unfold Hid at HV
  rw [HV]
  rw [← hF] at fl
  clear HV hq hF hF0 hA hp
  obtain ⟨W1, hW1⟩ : ∃ W, W = w.alloc (.cells #[.bool s, .slice ao n ca, .slice bo m cb] 33) := ⟨_, rfl⟩
  obtain ⟨W2, hW2⟩ : ∃ W, W = W1.alloc (.cells #[.bool false, .slice none 0 0, .slice none 0 0] 33) := ⟨_, rfl⟩
  obtain ⟨g, hg⟩ : ∃ g, g = w.heap.size + 1 := ⟨_, rfl⟩
  have b1 : Below w.heap.size w W1 := by rw [hW1]; exact below_new _ _
  have b2 : Below W1.heap.size W1 W2 := by rw [hW2]; exact below_new _ _
  have s1 : W1.heap.size = w.heap.size + 1 := by rw [hW1]; exact World.size_alloc _ _
  have x1 : W1.heap[w.heap.size]? = some (.cells #[.bool s, .slice ao n ca, .slice bo m cb] 33 (0, 0)) := by rw [hW1]; exact heap_alloc_new _ _
  have x2 := carry x1 b2
  have X2 : Hid (W2.heap[g]? = some (.cells #[.bool false, .slice none 0 0, .slice none 0 0] 33 (0, 0))) := by rw [hg, ← s1, hW2]; exact heap_alloc_new _ _
  have HB2 : Hid (Below w.heap.size w W2) := b1.trans (b2.mono b1.size)
  have S2 : Hid (W2.heap.size = g + 1) := by unfold Hid; rw [hW2, World.size_alloc, s1, hg]
  have K1 : Hid (∀ w', Below W2.heap.size W2 w' → w'.cell? ⟨w.heap.size, 0, none⟩ = some (.bool s) ∧ w'.cell? ⟨w.heap.size, 1, none⟩ = some (.slice ao n ca) ∧ w'.cell? ⟨w.heap.size, 2, none⟩ = some (.slice bo m cb)) := fun w' hb => by
    obtain ⟨k0, k1, k2, _⟩ := at_block (carry x2 hb)
    exact ⟨k0, k1, k2⟩
  have HR : Hid (∀ w', Below W2.heap.size W2 w' → RQ w' s ao n ca bo m cb q k) := fun w' hb => (h.below HB2.out).below hb
  have NC : Hid (∀ w', Below W2.heap.size W2 w' → Calls Try.prog 58 #[.agg #[.bool s, .slice ao n ca, .slice bo m cb]] w' (MakesQ q k w')) := fun w' hb => rNormalize_q s ao bo n ca m cb k q w' (HR.out w' hb)
  obtain ⟨nD, hnD⟩ : ∃ n, n = (dig q.den).length := ⟨_, rfl⟩
  have hden := den_pos q
  have SD : Hid (Sm q.den k) := by
    obtain ⟨N0, D0, _, _, _, _, e0, sd0⟩ := h
    rw [← e0]
    exact Sm.of_le sd0 (rq_le (dn_pos D0)).2
  have S1 : Hid (Sm 1 k) := Sm.of_le SD.out hden
  have DC : Hid (∀ w', Below W2.heap.size W2 w' → Calls Try.prog 59 #[.agg #[.bool s, .slice ao n ca, .slice bo m cb]] w' fun e w'' => ∃ a c, e = .returned (.slice a nD c) ∧ Num w'' a nD c q.den ∧ Below w'.heap.size w' w'') := fun w' hb => (rDenominator_d s ao bo n ca m cb k q w' (HR.out w' hb)).mono (by
    rintro e w'' ⟨a, c, rfl, f, b⟩
    rw [hnD]
    exact ⟨a, c, rfl, Num.of_fr f SD.out, b⟩)
  obtain ⟨nQ, hnQ⟩ : ∃ n, n = (dig F).length := ⟨_, rfl⟩
  obtain ⟨nR, hnR⟩ : ∃ n, n = (dig (rn q % q.den)).length := ⟨_, rfl⟩
  have DV : Hid (∀ w' a n' c b m' d, Num w' a n' c (rn q) → Num w' b m' d q.den → Calls Try.prog 57 #[.slice a n' c, .slice b m' d] w' fun e w'' => ∃ qo qc ro rc, e = .returned (.tuple #[.slice qo nQ qc, .slice ro nR rc, .bool true]) ∧ Fr w'.heap.size w'' qo qc (dig F) ∧ Fr w'.heap.size w'' ro rc (dig (rn q % q.den)) ∧ Below w'.heap.size w' w'') := fun w' a n' c b m' d h1 h2 => by
    rw [hnQ, hnR]
    exact rDivide_numD h1 h2 hden fl rfl
  have HNQ := Lib.hid hnQ
  have hgw : Hid (w.heap.size ≤ g) := by unfold Hid; omega
  clear hnD hnQ hnR hden fl b1 b2 s1 x1 x2 HR
  go_enter Try.func35, Try.ntmps35
  go_upto_region 1 with fail
  rw [← hg, ← hW1, ← hW2]
  clear hW1 hW2 hg
  refine wp_region_held_drew (S := fun w' => Below W2.heap.size W2 w') (by kernel_rfl) ((Below.refl _ _).drew) (fun hH => ?_)
  refine wpAnyH_take (i := 0) (v := (.agg #[.bool s, .slice ao n ca, .slice bo m cb])) rfl (by kernel_rfl) (by kernel_rfl) (by kernel_rfl) (fun _ _ _ h => h) (Or.inl ⟨by kernel_rfl, ?_⟩) hH ?_
  · intro w1 hB
    obtain ⟨k0, k1, k2⟩ := K1.out w1 hB
    go_simp
  change wpAnyH _ _ _ _ _ _ _ (Act.put _ (some 7) _) _
  try simp only [Act.put, List.setIfInBounds_toArray, List.set_cons_zero, List.set_cons_succ]
  refine wpAnyH_take (i := 3) (v := (.agg #[.bool s, .slice ao n ca, .slice bo m cb])) rfl (by kernel_rfl) (by kernel_rfl) (by kernel_rfl) (fun _ _ _ h => h) (Or.inl ⟨by kernel_rfl, ?_⟩) hH ?_
  · intro w1 hB
    obtain ⟨k0, k1, k2⟩ := K1.out w1 hB
    go_simp
  change wpAnyH _ _ _ _ _ _ _ (Act.put _ (some 10) _) _
  try simp only [Act.put, List.setIfInBounds_toArray, List.set_cons_zero, List.set_cons_succ]
  refine wpAnyH_ready (rs := [1]) (by kernel_rfl) (by simp) ?_
  refine AllReadyH.cons rfl (fun K hK => ?_) AllReadyH.nil
  go_simp
  refine (NC.out _ hH).mono ?_
  rintro e V1 ⟨s5, a5, n5, c5, o5, m5, d5, rfl, cq5, v1⟩
  try go_simp
  refine hK.out _ _ (keepB v1 hH (Nat.le_refl _)) (fun hH1 => ?_)
  clear hK K
  try simp only [Act.put, List.setIfInBounds_toArray, List.set_cons_zero, List.set_cons_succ]
  refine wpAnyH_take (i := 2) (v := (.slice a5 n5 c5)) rfl (by kernel_rfl) (by kernel_rfl) (by kernel_rfl) (fun _ _ _ h => h) (Or.inl ⟨by kernel_rfl, ?_⟩) hH1 ?_
  · intro w1 hB
    go_simp
    try simp only [field_nm, Result.andThen_ok]
    try go_simp
  change wpAnyH _ _ _ _ _ _ _ (Act.put _ (some 9) _) _
  try simp only [Act.put, List.setIfInBounds_toArray, List.set_cons_zero, List.set_cons_succ]
  refine wpAnyH_ready (rs := [4]) (by kernel_rfl) (by simp) ?_
  refine AllReadyH.cons rfl (fun K hK => ?_) AllReadyH.nil
  go_simp
  refine (DC.out _ hH1).mono ?_
  rintro e V4 ⟨a6, c6, rfl, f6, v4⟩
  try go_simp
  refine hK.out _ _ (keepB v4 hH1 (Nat.le_refl _)) (fun hH4 => ?_)
  clear hK K
  try simp only [Act.put, List.setIfInBounds_toArray, List.set_cons_zero, List.set_cons_succ]
  refine wpAnyH_ready (rs := [5]) (by kernel_rfl) (by simp) ?_
  refine AllReadyH.cons rfl (fun K hK => ?_) AllReadyH.nil
  go_simp
  refine (DV.out _ _ _ _ _ _ _ ((cq_upperD cq5).below v4) f6).mono ?_
  rintro e V5 ⟨qo, qc, ro, rc, rfl, fq5, _, v5⟩
  try go_simp
  refine hK.out _ _ (keepB v5 hH4 (Nat.le_refl _)) (fun hH5 => ?_)
  clear hK K
  try simp only [Act.put, List.setIfInBounds_toArray, List.set_cons_zero, List.set_cons_succ]
  refine wpAnyH_take (i := 6) (v := (.tuple #[.slice qo nQ qc, .slice ro nR rc, .bool true])) rfl (by kernel_rfl) (by kernel_rfl) (by kernel_rfl) (fun _ _ _ h => h) (Or.inl ⟨by kernel_rfl, ?_⟩) hH5 ?_
  · intro w1 hB
    go_simp
  change wpAnyH _ _ _ _ _ _ _ (Act.put _ (some 6) _) _
  try simp only [Act.put, List.setIfInBounds_toArray, List.set_cons_zero, List.set_cons_succ]
  refine wpAnyH_take (i := 7) (v := (.slice qo nQ qc)) rfl (by kernel_rfl) (by kernel_rfl) (by kernel_rfl) (fun _ _ _ h => h) (Or.inl ⟨by kernel_rfl, ?_⟩) hH5 ?_
  · intro w1 hB
    go_simp
  change wpAnyH _ _ _ _ _ _ _ (Act.put _ (some 13) _) _
  try simp only [Act.put, List.setIfInBounds_toArray, List.set_cons_zero, List.set_cons_succ]
  refine wpAnyH_take (i := 10) (v := (.slice qo nQ qc)) rfl (by kernel_rfl) (by kernel_rfl) (by kernel_rfl) (fun _ _ _ h => h) (Or.inl ⟨by kernel_rfl, ?_⟩) hH5 ?_
  · intro w1 hB
    go_simp
  change wpAnyH _ _ _ _ _ _ _ (Act.put _ (some 3) _) _
  try simp only [Act.put, List.setIfInBounds_toArray, List.set_cons_zero, List.set_cons_succ]
  refine wpAnyH_take (i := 8) (v := (.slice ro nR rc)) rfl (by kernel_rfl) (by kernel_rfl) (by kernel_rfl) (fun _ _ _ h => h) (Or.inl ⟨by kernel_rfl, ?_⟩) hH5 ?_
  · intro w1 hB
    go_simp
  change wpAnyH _ _ _ _ _ _ _ (Act.put _ (some 14) _) _
  try simp only [Act.put, List.setIfInBounds_toArray, List.set_cons_zero, List.set_cons_succ]
  refine wpAnyH_take (i := 11) (v := (.slice ro nR rc)) rfl (by kernel_rfl) (by kernel_rfl) (by kernel_rfl) (fun _ _ _ h => h) (Or.inl ⟨by kernel_rfl, ?_⟩) hH5 ?_
  · intro w1 hB
    go_simp
  change wpAnyH _ _ _ _ _ _ _ (Act.put _ (some 4) _) _
  try simp only [Act.put, List.setIfInBounds_toArray, List.set_cons_zero, List.set_cons_succ]
  refine wpAnyH_take (i := 9) (v := (.bool true)) rfl (by kernel_rfl) (by kernel_rfl) (by kernel_rfl) (fun _ _ _ h => h) (Or.inl ⟨by kernel_rfl, ?_⟩) hH5 ?_
  · intro w1 hB
    go_simp
  change wpAnyH _ _ _ _ _ _ _ (Act.put _ (some 15) _) _
  try simp only [Act.put, List.setIfInBounds_toArray, List.set_cons_zero, List.set_cons_succ]
  refine wpAnyH_take (i := 12) (v := (.bool true)) rfl (by kernel_rfl) (by kernel_rfl) (by kernel_rfl) (fun _ _ _ h => h) (Or.inl ⟨by kernel_rfl, ?_⟩) hH5 ?_
  · intro w1 hB
    go_simp
  change wpAnyH _ _ _ _ _ _ _ (Act.put _ (some 5) _) _
  try simp only [Act.put, List.setIfInBounds_toArray, List.set_cons_zero, List.set_cons_succ]
  refine wpAnyH_done (by kernel_rfl) ?_ _
  have BV : Below W2.heap.size W2 V5 := hH5
  have C5 : Hid (CQ W2.heap.size V5 false qo nQ qc none 0 0 (rq false F 1) k) := by
    have hs1 : W2.heap.size ≤ V4.heap.size := (hH4 : Below W2.heap.size W2 V4).size
    have h5 := cq_of (B := W2.heap.size) (w := V5) (s := false) (N := F) (D := 1) (k := k) (n := nQ) (m := 0) (ao := qo) (ca := qc) (bo := none) (cb := 0) (by omega) (by rw [Nat.gcd_one_right, Nat.div_one]; exact HNQ.out) (by rw [Nat.gcd_one_right, Nat.div_one]; exact fq5.mono hs1) (by rw [Nat.gcd_one_right, Nat.div_one]; rfl) (by rw [Nat.gcd_one_right, Nat.div_one]; exact Fr.nil _ _) SF.out S1.out
    unfold Hid
    simpa using h5
  have HBV := Lib.hid (HB2.out.trans (BV.mono HB2.out.size))
  have x5 := carry X2.out BV
  obtain ⟨p0, p1, p2, z0, z1, z2⟩ := at_block x5
  clear BV x5 fq5 cq5 f6 K1 NC DC DV X2 HB2
  go_wp2_with fail
  refine bodyPost_ret (v := .agg #[.bool false, .slice qo nQ qc, .slice none 0 0]) (by simp [results, Try.results35, go_sem, p0, p1, p2]) rfl ?_
  exact MakesQ.lift C5.out rfl (by rw [S2.out]; omega) hgw.out HBV.out _ _ _
end Go.Proofs.Ytcnghhlchjcdhaa.Dr
/- Allocate where it succeeds: any numbers. -/
namespace Go.Proofs.Ytcnghhlchjcdhaa.Dr
open Go.RowKit Go.Sort SN C6

def AlG (gC gM i N : Nat) (x : Int) (n5 : Nat) (a5 : Option Addr) (c5 : Nat) : List (Value → Prop) := [pV (.slice (some ⟨gC, 0, none⟩) N N), pV (.int .i64 (i : Int)), pV (.slice (some ⟨gM, 0, none⟩) N N), pV (.int .i64 (i : Int)), pV (.int .u64 x), pV (.int .i64 x), pV (.slice a5 n5 c5), pV (.pointer (some ⟨gC, i, none⟩)), pT, pV (.pointer (some ⟨gM, i, none⟩)), pT]
/-- the world within the region of the two stores -/
def WXg (gC gM i : Nat) (x : Int) (a5 : Option Addr) (n1 c5 : Nat) (W : World) (D : Nat → Bool) (w : World) : Prop := w = bif D 10 then (W.setCell ⟨gC, i, none⟩ (.int .i64 x)).setCell ⟨gM, i, none⟩ (.slice a5 n1 c5) else bif D 8 then W.setCell ⟨gC, i, none⟩ (.int .i64 x) else W
theorem WXg.one {gC gM i : Nat} {x : Int} {a5 : Option Addr} {n1 c5 : Nat} {W : World} {D : Nat → Bool} (h : D 10 = false) : WXg gC gM i x a5 n1 c5 W (upd D 8) (W.setCell ⟨gC, i, none⟩ (.int .i64 x)) := by
  unfold WXg
  have e8 : upd D 8 8 = true := rfl
  have e10 : upd D 8 10 = false := h
  rw [e8, e10]
  rfl
theorem made_flA (N : Nat) (c : Nat → Int) : (madeCells (Value.int .i64 0).cells (N * 1)).toList = flA N c 0 := by
  rw [show (Value.int .i64 0).cells = #[Value.int .i64 0] from rfl, toList_madeCells_one, Nat.mul_one]
  apply List.ext_getElem
  · simp [flA]
  · intro j h1 h2
    simp [flA]
theorem RemP.below {w w' : World} {gM k : Nat} {r : Nat → Nat} (h : RemP w gM k r) (b : Below w.heap.size w w') : RemP w' gM k r := fun j hj => by
  obtain ⟨ao, ca, hc, hf⟩ := h j hj
  exact ⟨ao, ca, (World.cell?_of_block (a := ⟨gM, j, none⟩) (b.block gM (World.block_lt_of_cell? _ _ hc))).trans hc, hf.below b⟩
theorem RemP.setne {w : World} {gM k g j : Nat} {r : Nat → Nat} {v : Value} {cur : Array Value} {t : TypeId} (h : RemP w gM k r) (hg : w.heap[g]? = some (.cells cur t (0, 0))) (ht : t ≠ 71) (hne : g ≠ gM) : RemP (w.setCell ⟨g, j, none⟩ v) gM k r := fun i hi => by
  obtain ⟨ao, ca, hc, hf⟩ := h i hi
  exact ⟨ao, ca, (World.cell?_setCell_other _ _ _ _ (by intro e; simp only [Addr.mk.injEq] at e; exact hne e.1)).trans hc, hf.setne hg ht⟩
theorem RemP.put {w : World} {gM k ca : Nat} {r : Nat → Nat} {ao : Option Addr} {cur : Array Value} (h : RemP w gM k r) (hg : w.heap[gM]? = some (.cells cur 31 (0, 0))) (hk : k < cur.size) (hf : Fr 0 w ao ca (dig (r k))) : RemP (w.setCell ⟨gM, k, none⟩ (.slice ao (dig (r k)).length ca)) gM (k + 1) r := fun i hi => by
  by_cases e : i = k
  · subst e
    exact ⟨ao, ca, World.cell?_setCell_same' _ _ _ (by simp [World.cell?, hg, hk]), hf.setne hg (by decide)⟩
  · obtain ⟨ao', ca', hc, hf'⟩ := h i (by omega)
    exact ⟨ao', ca', (World.cell?_setCell_other _ _ _ _ (by intro q; simp only [Addr.mk.injEq] at q; exact e q.2.1.symm)).trans hc, hf'.setne hg (by decide)⟩
theorem sN_mono (f : Nat → Nat) {i N : Nat} (h : i ≤ N) : sN f i ≤ sN f N := by
  induction N with
  | zero => have : i = 0 := by omega
            rw [this]; exact Nat.le_refl _
  | succ N ih =>
    by_cases e : i = N + 1
    · rw [e]; exact Nat.le_refl _
    · exact Nat.le_trans (ih (by omega)) (Nat.le_add_right _ _)
theorem sN_one_le (f : Nat → Nat) {i N : Nat} (h : i < N) : f i ≤ sN f N := Nat.le_trans (Nat.le_add_left (f i) (sN f i)) (sN_mono f (show i + 1 ≤ N by omega))
/-- what Allocate gives -/
def AllocPost (N t : Nat) (c : Nat → Nat) (r : Nat → Nat) (w : World) (e : Ending) (w' : World) : Prop := ∃ (od : List Nat) (g : Nat), Ord N (fun i => ((r i : Nat) : Int)) od ∧ e = .returned (.tuple #[.slice (some ⟨g, 0, none⟩) N N, .int .i64 0]) ∧ w'.ownsRow w.heap.size 3 1 (.slice (some ⟨g, 0, none⟩) N N) N (rowF N (fun j => (c j : Int) + (upN od (t - sN c N) j : Nat))) ∧ Below w.heap.size w w'

set_option maxHeartbeats 16000000 in
set_option maxRecDepth 100000 in
theorem Allocate_ok (t N k K KP : Nat) (ao : Option Addr) (cap : Nat) (rs : List RV) (f : Nat → Rat) (w : World) (ht : t ≤ 1048576) (h0 : 0 < N) (h19 : N ≤ 19) (h : RdR w ao cap rs) (hf : RL w rs f N k) (hkK : k ≤ K) (hK : K ≤ 1000) (hL : ∀ i, i ≤ N → Sm (Lm f i) K) (hKP : 1 ≤ KP ∧ KP ≤ 1000)
    (hSP : ∀ i, i ≤ N → Sm (sN (pA f (Lm f N)) i) KP) (ha : (allP f N && anyP f N) = true) (hP : 0 < sN (pA f (Lm f N)) N) :
    Calls Try.prog 9 #[.int .i64 (t : Int), .slice ao N cap] w (AllocPost N t (fun i => t * pA f (Lm f N) i / sN (pA f (Lm f N)) N) (fun i => t * pA f (Lm f N) i % sN (pA f (Lm f N)) N) w) := by
  obtain ⟨i0, hi, hz0, hz1, hz2⟩ := info_partsr infoInt10
  obtain ⟨j0, hj, hy0, hy1, hy2⟩ := info_partsr infoNat
  have AS := areShares_v ao cap N k rs f w (by omega) h hf
  rw [ha] at AS
  have AS := Lib.hid AS
  obtain ⟨p, hp⟩ : ∃ p, p = pA f (Lm f N) := ⟨_, rfl⟩
  have PRV : Hid (∀ w', Below w.heap.size w w' → Calls Try.prog 25 #[.slice ao N cap] w' (PrV w' N p)) := fun w' hb => by
    rw [hp]
    exact proportions_v ao cap N k K KP rs f w' (by omega) (h.below hb) (hf.below hb) hkK hK hL hSP
  rw [← hp] at hSP hP ⊢
  obtain ⟨P, hPd⟩ : ∃ P, P = sN p N := ⟨_, rfl⟩
  obtain ⟨c, hc⟩ : ∃ c : Nat → Nat, c = fun i => t * p i / P := ⟨_, rfl⟩
  obtain ⟨r, hr⟩ : ∃ r : Nat → Nat, r = fun i => t * p i % P := ⟨_, rfl⟩
  obtain ⟨cI, hcI⟩ : ∃ f : Nat → Int, f = fun i => ((c i : Nat) : Int) := ⟨_, rfl⟩
  have HP0 : Hid (0 < sN p N) := hP
  have HCI : Hid (∀ i, t * p i / sN p N = c i) := fun i => by rw [hc, hPd]
  have HRI : Hid (∀ i, t * p i % sN p N = r i) := fun i => by rw [hr, hPd]
  have HCF : Hid (∀ i, cI i = ((c i : Nat) : Int)) := fun i => by rw [hcI]
  have HSP : Hid (Sm (sN p N) KP) := hSP N (Nat.le_refl _)
  have HSp : Hid (∀ i, i < N → Sm (p i) KP) := fun i hi => Sm.of_le (hSP N (Nat.le_refl _)) (sN_one_le p hi)
  have HSr : Hid (∀ i, i < N → Sm (r i) KP) := fun i _ => Sm.of_le (hSP N (Nat.le_refl _)) (by rw [← HRI.out i]; exact Nat.le_of_lt (Nat.mod_lt _ hP))
  have HLF : Hid (sN c N ≤ t ∧ t - sN c N < N) := by
    unfold Hid
    rw [hc, hPd]
    exact left_lt h0 hP rfl
  have HSB : Hid (∀ i, i < N → sN c (i + 1) ≤ t) := fun i hi => Nat.le_trans (sN_mono c hi) HLF.out.1
  have HST : Hid (Sm t 1) := sm_small (by omega)
  have HCB : Hid (∀ i, i < N → c i ≤ 1048576) := fun i hi => by have := HSB.out i hi; have e : sN c (i + 1) = sN c i + c i := rfl; omega
  have HSc : Hid (∀ i, i < N → Sm (c i) 1) := fun i hi => sm_small (by have := HCB.out i hi; omega)
  have HSTP : Hid (∀ i, i < N → Sm (t * p i) (1 + KP)) := fun i hi => Sm.mul HST.out (HSp.out i hi) (by omega)
  rw [← hPd, ← hc, ← hr]
  have hE1 : decide ((t : Int) < 0) = false := decide_eq_false (by omega)
  have hE2 : decide ((1048576 : Int) < (t : Int)) = false := decide_eq_false (by omega)
  have hE3 : (0 : Int) ≤ (t : Int) := by omega
  have hE4 : (t : Int) ≤ 1048576 := by omega
  have hwu : IntKind.u64.wrap (t : Int) = (t : Int) := by rw [IntKind.wrap_u64]; omega
  clear h hf hL hSP ha hP hp hPd hc hr hcI
  go_enter Try.func9, Try.ntmps9
  go_wp2_with fail
  refine AS.out.mono ?_; rintro e w2 ⟨rfl, b2⟩
  have PR := Lib.hid (PRV.out w2 b2)
  have HB2 := Lib.hid b2
  clear b2 AS
  go_wp2_with fail
  refine PR.out.mono ?_; rintro e w5 ⟨aS, cS, vs, so, sn, sc, rfl, hown, hall, hsn, hsum, b5⟩
  obtain ⟨G, hG⟩ : ∃ G, G = w5.heap.size := ⟨_, rfl⟩
  have HOS := Lib.hid hown
  have HAL := Lib.hid hall
  have HSN := Lib.hid hsn
  have HSU := Lib.hid hsum
  have HB5 : Hid (Below w.heap.size w w5) := HB2.out.trans (b5.mono HB2.out.size)
  have HG := Lib.hid hG
  clear hown hall hsn hsum b5 hG PR HB2
  go_upto_region 7 with (at_make; go_loud (refine wpList_make_full _ rfl _ _ 23 rfl w5.heap.size 3 i0 (.int .i64 0) 1 Try.underlying23 hi hz0 hz1 _ _ _ _ N rfl rfl (by omega) (by omega) (by rw [hz2]; omega) (by unfold maxLen; omega) (Nat.le_refl _) ?_); intro w6 hown6 hgr6)
  all_goals
    obtain ⟨gC, hgC⟩ : ∃ g, g = w5.heap.size := ⟨_, rfl⟩
    have B6 : Below w5.heap.size w5 w6 := (Below.refl _ _).grown hgr6 (Nat.le_refl _) (fun k hk => by cases hk)
    have hC6 : w6.ownsRow w5.heap.size 3 1 (.slice (some ⟨w5.heap.size, 0, none⟩) N N) N (flA N cI 0) := by rw [← made_flA N cI]; exact hown6
    rw [← hgC] at hC6
    have hltC := (hC6.lt gC rfl).2
    have HC6 := Lib.hid hC6
    have HB6 := Lib.hid B6
    have HGC := Lib.hid hgC
    clear hown6 hgr6 hC6 B6
    try rw [← hgC]
    clear hgC
    go_upto_region 8 with (at_make; go_loud (refine wpList_make_full _ rfl _ _ 53 rfl w6.heap.size 31 j0 (.slice none 0 0) 1 Try.underlying53 hj hy0 hy1 _ _ _ _ N rfl rfl (by omega) (by omega) (by rw [hy2]; omega) (by unfold maxLen; omega) (Nat.le_refl _) ?_); intro w7 hown7 hgr7)
    all_goals
      obtain ⟨gM, hgM⟩ : ∃ g, g = w6.heap.size := ⟨_, rfl⟩
      have B7 : Below w6.heap.size w6 w7 := (Below.refl _ _).grown hgr7 (Nat.le_refl _) (fun k hk => by cases hk)
      obtain ⟨rl, hrl⟩ : ∃ l, l = (madeCells (Value.slice none 0 0).cells (N * 1)).toList := ⟨_, rfl⟩
      rw [← hrl, ← hgM] at hown7
      obtain ⟨W8, hW8⟩ : ∃ W, W = w7.alloc (.cells #[.slice (some ⟨gM, 0, none⟩) N N] 53) := ⟨_, rfl⟩
      obtain ⟨gX, hgX⟩ : ∃ g, g = w7.heap.size := ⟨_, rfl⟩
      have b8 : Below w7.heap.size w7 W8 := by rw [hW8]; exact below_new _ _
      have x8 : Hid (W8.heap[gX]? = some (.cells #[.slice (some ⟨gM, 0, none⟩) N N] 53 (0, 0))) := by rw [hW8, hgX]; exact heap_alloc_new _ _
      have hltM := (hown7.lt gM rfl).2
      have hs6 := HB6.out.size
      have HC8 : Hid (W8.ownsRow gC 3 1 (.slice (some ⟨gC, 0, none⟩) N N) N (flA N cI 0)) := row_below (row_below HC6.out B7) b8
      have HM8 : Hid (W8.ownsRow gM 31 1 (.slice (some ⟨gM, 0, none⟩) N N) N rl) := row_below hown7 b8
      have HW8 : Hid (Below G w5 W8) := by
        rw [HG.out]
        exact HB6.out.trans ((B7.trans (b8.mono B7.size)).mono HB6.out.size)
      have HORD : Hid (G ≤ gC ∧ gC < gM ∧ gM < gX) := ⟨by rw [HGC.out, HG.out]; exact Nat.le_refl _, by omega, by omega⟩
      try rw [← hgM]
      rw [← hW8]
      try rw [← hgX]
      clear hown7 hgr7 B7 b8 hW8 hgM hgX hltM hs6 hltC HC6 HB6 hi hz0 hz1 hz2 hj hy0 hy1 hy2
      go_wp2_with fail
      go_loopw [47, 9] (fun s47 s9 wr => ∃ (i : Nat) (l : Int) (rl : List Value), i ≤ N ∧ s47 = .int .i64 (i : Int) ∧ s9 = .int .i64 l ∧ Hid (l = (t : Int) - ((sN c i : Nat) : Int)) ∧ Hid (wr.ownsRow gC 3 1 (.slice (some ⟨gC, 0, none⟩) N N) N (flA N cI i)) ∧ Hid (wr.ownsRow gM 31 1 (.slice (some ⟨gM, 0, none⟩) N N) N rl) ∧ Hid (RemP wr gM i r) ∧ Hid (wr.heap[gX]? = some (.cells #[.slice (some ⟨gM, 0, none⟩) N N] 53 (0, 0))) ∧ Hid (Below G w5 wr)) (fun s47 _ _ => N - (intOf s47).toNat)
      case atStart => exact ⟨0, (t : Int), rl, by omega, rfl, rfl, by show (t : Int) = (t : Int) - ((0 : Nat) : Int); omega, HC8, HM8, fun j hj => absurd hj (Nat.not_lt_zero _), x8, HW8⟩
      case round =>
        obtain ⟨i, l, rl, hi3, rfl, rfl, hl, hC, hM, hR, hX, hb⟩ := hrel
        by_cases hlt : i < N
        · have hlt2 : (i : Int) < (N : Int) := by omega
          have hbw : Below w5.heap.size w5 wr := by rw [← HG.out]; exact hb.out
          have hSr := row_below HOS.out hbw
          have hAl := HAL.out.below hbw
          have hSu := HSU.out.below hbw
          obtain ⟨gS, hgS⟩ : ∃ g, aS = some ⟨g, 0, none⟩ := by
            rcases hSr.2 with ⟨e0, h0⟩ | ⟨g, c', cur, e0, _⟩
            · omega
            · exact ⟨g, by injection e0⟩
          subst hgS
          have hcS : N ≤ cS ∧ cS ≤ 9223372036854775807 := by
            rcases hSr.2 with ⟨e0, h0⟩ | ⟨g, c', cur, e0, _, _, h3, hm, _⟩
            · omega
            · cases e0; unfold maxLen at hm; omega
          obtain ⟨a1, c1, hv1, hf1⟩ := hAl.2 i hlt
          have k1 : wr.cell? ⟨gS, i, none⟩ = some (.slice a1 (dig (p i)).length c1) := (hSr.cellAt i (by omega)).trans hv1
          have FU := Lib.hid (FromUint_any (t : Int) (by omega) (by omega) wr)
          have HF1 := Lib.hid hf1
          have HSU1 := Lib.hid hSu
          have hicS : i < cS := by have := hcS.1; omega
          obtain ⟨n1, hn1⟩ : ∃ n, n = (dig (p i)).length := ⟨_, rfl⟩
          have HN1 := Lib.hid hn1
          rw [← hn1] at k1
          clear hSr hAl hSu hv1 hf1 hn1 hbw
          obtain ⟨hcS1, hcS2⟩ := hcS
          go_upto_region 11 with fail
          clear k1
          go_wp2_with fail
          refine FU.out.mono ?_; rintro e w10 ⟨a2, c2, rfl, f2, b10⟩
          rw [Int.toNat_natCast] at f2
          have ML := Mul_num (Num.of_fr f2 HST.out) (by have := Num.of_fr (HF1.out.below b10) (HSp.out i hlt); rw [← HN1.out] at this; exact this)
          have ML := Lib.hid ML
          have HB10 := Lib.hid b10
          clear f2 b10 FU
          go_wp2_with fail
          refine ML.out.mono ?_; rintro e w11 ⟨a3, c3, rfl, f3, b11⟩
          have HB11 : Hid (Below wr.heap.size wr w11) := HB10.out.trans (b11.mono HB10.out.size)
          have DV := Lib.hid (Divide_numD (Num.of_fr f3 (HSTP.out i hlt)) (by have := Num.of_fr (HSU1.out.below HB11.out) HSP.out; rw [← HSN.out] at this; exact this) HP0.out (HCI.out i) (HRI.out i))
          clear f3 b11 ML HB10
          go_wp2_with fail
          refine DV.out.mono ?_; rintro e w12 ⟨a4, c4, a5, c5, rfl, f4, f5, b12⟩
          have HB12 : Hid (Below wr.heap.size wr w12) := HB11.out.trans (b12.mono HB11.out.size)
          obtain ⟨x, hx⟩ : ∃ x, x = ((c i : Nat) : Int) := ⟨_, rfl⟩
          have hxb := HCB.out i hlt
          have UI := Uint_numS (Num.of_fr f4 (HSc.out i hlt)) (by omega)
          rw [← hx] at UI
          have UI := Lib.hid UI
          have HXE := Lib.hid hx
          have hx0 : 0 ≤ x ∧ x ≤ 1048576 := by omega
          have hxw : IntKind.i64.wrap x = x := IntWalk.i64_in _ (by omega)
          obtain ⟨n5, hn5⟩ : ∃ n, n = (dig (r i)).length := ⟨_, rfl⟩
          have HN5 := Lib.hid hn5
          rw [← hn5] ; clear hx hn5
          have HF5 : Hid (Fr 0 w12 a5 c5 (dig (r i))) := f5.mono (Nat.zero_le _)
          clear f4 f5 b12 DV HB11
          go_wp2_with fail
          refine UI.out.mono ?_; rintro e w13 ⟨rfl, rfl⟩
          clear UI
          have hC12 := row_below hC.out HB12.out
          have hM12 := row_below hM.out HB12.out
          have hR12 := hR.out.below HB12.out
          have hX12 := carry hX.out HB12.out
          have x0 : w12.cell? ⟨gX, 0, none⟩ = some (.slice (some ⟨gM, 0, none⟩) N N) := by simp [World.cell?, hX12]
          obtain ⟨u0, hu0⟩ : ∃ v, w12.cell? ⟨gC, i, none⟩ = some v := ⟨_, (hC12.cellAt i (by omega)).trans (List.getElem?_eq_getElem (by rw [flA_len]; omega))⟩
          have uf := hC12.frozenAt i
          have hrl3 : rl.length = N := by have := hM12.1; omega
          obtain ⟨u1, hu1⟩ : ∃ v, w12.cell? ⟨gM, i, none⟩ = some v := ⟨_, (hM12.cellAt i (by omega)).trans (List.getElem?_eq_getElem (by omega))⟩
          have mf := hM12.frozenAt i
          have hCM : gC ≠ gM := by have := HORD.out; omega
          go_upto_region 14 with fail
          have XC : ∀ {D : Nat → Bool} {w1 : World}, WXg gC gM i x a5 n5 c5 w12.drew D w1 → w1.cell? ⟨gX, 0, none⟩ = some (.slice (some ⟨gM, 0, none⟩) N N) := fun {D} {w1} h => by
            have hXC : gC ≠ gX := by have := HORD.out; omega
            have hXM : gM ≠ gX := by have := HORD.out; omega
            have x0' : w12.drew.cell? ⟨gX, 0, none⟩ = some (.slice (some ⟨gM, 0, none⟩) N N) := x0
            have x1 : (w12.drew.setCell ⟨gC, i, none⟩ (.int .i64 x)).cell? ⟨gX, 0, none⟩ = some (.slice (some ⟨gM, 0, none⟩) N N) := (World.cell?_setCell_other _ _ _ _ (by intro e; simp only [Addr.mk.injEq] at e; exact hXC e.1)).trans x0'
            have x2 : ((w12.drew.setCell ⟨gC, i, none⟩ (.int .i64 x)).setCell ⟨gM, i, none⟩ (.slice a5 n5 c5)).cell? ⟨gX, 0, none⟩ = some (.slice (some ⟨gM, 0, none⟩) N N) := (World.cell?_setCell_other _ _ _ _ (by intro e; simp only [Addr.mk.injEq] at e; exact hXM e.1)).trans x1
            unfold WXg at h
            rw [h]
            cases D 10 <;> cases D 8 <;> assumption
          refine wp_region_any (by kernel_rfl) ?_
          refine region_ssa [69, 70, 71, 72, 73, 74, 75, 76, 77] (fun _ => True) (fun _ _ => True) (RP (AlG gC gM i N x n5 a5 c5)) (fun D _ w1 => WXg gC gM i x a5 n5 c5 w12.drew D w1) (fun f => rfl) (by kernel_rfl) (by kernel_rfl) ?_ ?_ ?_ ?_ (AllF.below (n := 11) ?_) ?_
          · trivial
          · intro f; exact rfl
          · intro i v w1 w2 _ h _; exact h
          · intro _ _ _ _; trivial
          · refine AllF.step (m := 10) (j := 1) rfl ?_ ?_
            · intro D f w1 hD hB hR hp hcl hX
              have HX := Lib.hid hX
              have HC := Lib.hid hcl
              have HB := Lib.hid hB
              have HD := Lib.hid hD
              clear hX hcl hB hD hR hp
              refine wpOp_step rfl (fun K hK => ?_)
              simp only [putAll, Act.put, List.setIfInBounds_toArray, List.set_cons_succ, List.set_cons_zero]
              go_simp
              exact hK _ _ ⟨.slice (some ⟨gC, 0, none⟩) N N, (by show _ = Act.put _ (some 69) _; simp only [putAll, Act.put, List.setIfInBounds_toArray, List.set_cons_succ, List.set_cons_zero, *]; all_goals rfl), rfl, trivial, HX.out⟩
            refine AllF.step (m := 9) (j := 2) rfl ?_ ?_
            · intro D f w1 hD hB hR hp hcl hX
              have HX := Lib.hid hX
              have HC := Lib.hid hcl
              have HB := Lib.hid hB
              have HD := Lib.hid hD
              clear hX hcl hB hD hR hp
              refine wpOp_step rfl (fun K hK => ?_)
              simp only [putAll, Act.put, List.setIfInBounds_toArray, List.set_cons_succ, List.set_cons_zero]
              go_simp
              exact hK _ _ ⟨.int .i64 (i : Int), (by show _ = Act.put _ (some 70) _; simp only [putAll, Act.put, List.setIfInBounds_toArray, List.set_cons_succ, List.set_cons_zero, *]; all_goals rfl), rfl, trivial, HX.out⟩
            refine AllF.step (m := 8) (j := 3) rfl ?_ ?_
            · intro D f w1 hD hB hR hp hcl hX
              have hx0 : w1.cell? ⟨gX, 0, none⟩ = some (.slice (some ⟨gM, 0, none⟩) N N) := XC hX
              have HX := Lib.hid hX
              have HC := Lib.hid hcl
              have HB := Lib.hid hB
              have HD := Lib.hid hD
              clear hX hcl hB hD hR hp
              refine wpOp_step rfl (fun K hK => ?_)
              simp only [putAll, Act.put, List.setIfInBounds_toArray, List.set_cons_succ, List.set_cons_zero]
              go_simp
              exact hK _ _ ⟨.slice (some ⟨gM, 0, none⟩) N N, (by show _ = Act.put _ (some 71) _; simp only [putAll, Act.put, List.setIfInBounds_toArray, List.set_cons_succ, List.set_cons_zero, *]; all_goals rfl), rfl, trivial, HX.out⟩
            refine AllF.step (m := 7) (j := 4) rfl ?_ ?_
            · intro D f w1 hD hB hR hp hcl hX
              have HX := Lib.hid hX
              have HC := Lib.hid hcl
              have HB := Lib.hid hB
              have HD := Lib.hid hD
              clear hX hcl hB hD hR hp
              refine wpOp_step rfl (fun K hK => ?_)
              simp only [putAll, Act.put, List.setIfInBounds_toArray, List.set_cons_succ, List.set_cons_zero]
              go_simp
              exact hK _ _ ⟨.int .i64 (i : Int), (by show _ = Act.put _ (some 72) _; simp only [putAll, Act.put, List.setIfInBounds_toArray, List.set_cons_succ, List.set_cons_zero, *]; all_goals rfl), rfl, trivial, HX.out⟩
            refine AllF.step (m := 6) (j := 5) rfl ?_ ?_
            · intro D f w1 hD hB hR hp hcl hX
              have HX := Lib.hid hX
              have HC := Lib.hid hcl
              have HB := Lib.hid hB
              have HD := Lib.hid hD
              clear hX hcl hB hD hR hp
              refine wpOp_step rfl (fun K hK => ?_)
              simp only [putAll, Act.put, List.setIfInBounds_toArray, List.set_cons_succ, List.set_cons_zero]
              go_simp
              exact hK _ _ ⟨.int .u64 x, (by show _ = Act.put _ (some 73) _; simp only [putAll, Act.put, List.setIfInBounds_toArray, List.set_cons_succ, List.set_cons_zero, *]; all_goals rfl), rfl, trivial, HX.out⟩
            refine AllF.step (m := 5) (j := 6) rfl ?_ ?_
            · intro D f w1 hD hB hR hp hcl hX
              have e4 : f 73 = .int .u64 x := (hpAt hp 4 (by kernel_rfl)).2
              have HX := Lib.hid hX
              have HC := Lib.hid hcl
              have HB := Lib.hid hB
              have HD := Lib.hid hD
              clear hX hcl hB hD hR hp
              refine wpOp_step rfl (fun K hK => ?_)
              simp only [putAll, Act.put, List.setIfInBounds_toArray, List.set_cons_succ, List.set_cons_zero]
              go_simp
              exact hK _ _ ⟨.int .i64 x, (by show _ = Act.put _ (some 74) _; simp only [putAll, Act.put, List.setIfInBounds_toArray, List.set_cons_succ, List.set_cons_zero, *]; all_goals rfl), rfl, trivial, HX.out⟩
            refine AllF.step (m := 4) (j := 7) rfl ?_ ?_
            · intro D f w1 hD hB hR hp hcl hX
              have HX := Lib.hid hX
              have HC := Lib.hid hcl
              have HB := Lib.hid hB
              have HD := Lib.hid hD
              clear hX hcl hB hD hR hp
              refine wpOp_step rfl (fun K hK => ?_)
              simp only [putAll, Act.put, List.setIfInBounds_toArray, List.set_cons_succ, List.set_cons_zero]
              go_simp
              exact hK _ _ ⟨.slice a5 n5 c5, (by show _ = Act.put _ (some 75) _; simp only [putAll, Act.put, List.setIfInBounds_toArray, List.set_cons_succ, List.set_cons_zero, *]; all_goals rfl), rfl, trivial, HX.out⟩
            refine AllF.step (m := 3) (j := 8) rfl ?_ ?_
            · intro D f w1 hD hB hR hp hcl hX
              have e0 : f 69 = .slice (some ⟨gC, 0, none⟩) N N := (hpAt hp 0 (by kernel_rfl)).2
              have e1 : f 70 = .int .i64 (i : Int) := (hpAt hp 1 (by kernel_rfl)).2
              have HX := Lib.hid hX
              have HC := Lib.hid hcl
              have HB := Lib.hid hB
              have HD := Lib.hid hD
              clear hX hcl hB hD hR hp
              refine wpOp_step rfl (fun K hK => ?_)
              simp only [putAll, Act.put, List.setIfInBounds_toArray, List.set_cons_succ, List.set_cons_zero]
              go_simp
              exact hK _ _ ⟨.pointer (some ⟨gC, i, none⟩), (by show _ = Act.put _ (some 76) _; simp only [putAll, Act.put, List.setIfInBounds_toArray, List.set_cons_succ, List.set_cons_zero, *]; all_goals rfl), rfl, trivial, HX.out⟩
            refine AllF.step (m := 2) (j := 9) rfl ?_ ?_
            · intro D f w1 hD hB hR hp hcl hX
              have e7 : f 76 = .pointer (some ⟨gC, i, none⟩) := (hpAt hp 7 (by kernel_rfl)).2
              have e5 : f 74 = .int .i64 x := (hpAt hp 5 (by kernel_rfl)).2
              have h10 : D 10 = false := noF (hcl 10) (by kernel_rfl) hD
              have hw : w1 = w12.drew := by have h := hX; unfold WXg at h; rw [h10, hD] at h; exact h
              subst hw
              have hu0' : w12.drew.cell? ⟨gC, i, none⟩ = some u0 := hu0
              have uf' : w12.drew.frozen? ⟨gC, i, none⟩ = false := uf
              have HX := Lib.hid hX
              have HC := Lib.hid hcl
              have HB := Lib.hid hB
              have HD := Lib.hid hD
              clear hX hcl hB hD hR hp
              refine wpOp_step rfl (fun K hK => ?_)
              simp only [putAll, Act.put, List.setIfInBounds_toArray, List.set_cons_succ, List.set_cons_zero]
              go_simp
              exact hK _ _ ⟨undef, (by show _ = Act.put _ (none) _; simp only [putAll, Act.put, List.setIfInBounds_toArray, List.set_cons_succ, List.set_cons_zero, *]; all_goals rfl), trivial, trivial, WXg.one h10⟩
            refine AllF.step (m := 1) (j := 10) rfl ?_ ?_
            · intro D f w1 hD hB hR hp hcl hX
              have e2 : f 71 = .slice (some ⟨gM, 0, none⟩) N N := (hpAt hp 2 (by kernel_rfl)).2
              have e3 : f 72 = .int .i64 (i : Int) := (hpAt hp 3 (by kernel_rfl)).2
              have HX := Lib.hid hX
              have HC := Lib.hid hcl
              have HB := Lib.hid hB
              have HD := Lib.hid hD
              clear hX hcl hB hD hR hp
              refine wpOp_step rfl (fun K hK => ?_)
              simp only [putAll, Act.put, List.setIfInBounds_toArray, List.set_cons_succ, List.set_cons_zero]
              go_simp
              exact hK _ _ ⟨.pointer (some ⟨gM, i, none⟩), (by show _ = Act.put _ (some 77) _; simp only [putAll, Act.put, List.setIfInBounds_toArray, List.set_cons_succ, List.set_cons_zero, *]; all_goals rfl), rfl, trivial, HX.out⟩
            refine AllF.step (m := 0) (j := 11) rfl ?_ ?_
            · intro D f w1 hD hB hR hp hcl hX
              have e9 : f 77 = .pointer (some ⟨gM, i, none⟩) := (hpAt hp 9 (by kernel_rfl)).2
              have e6 : f 75 = .slice a5 n5 c5 := (hpAt hp 6 (by kernel_rfl)).2
              have d8 : D 8 = true := (hpAt hp 8 (by kernel_rfl)).1
              have hw : w1 = w12.drew.setCell ⟨gC, i, none⟩ (.int .i64 x) := by have h := hX; unfold WXg at h; rw [hD, d8] at h; exact h
              subst hw
              have hu1' : (w12.drew.setCell ⟨gC, i, none⟩ (.int .i64 x)).cell? ⟨gM, i, none⟩ = some u1 := (World.cell?_setCell_other _ _ _ _ (by intro e; simp only [Addr.mk.injEq] at e; exact hCM e.1)).trans hu1
              have mf' : (w12.drew.setCell ⟨gC, i, none⟩ (.int .i64 x)).frozen? ⟨gM, i, none⟩ = false := by rw [World.frozen?_setCell]; exact mf
              have HX := Lib.hid hX
              have HC := Lib.hid hcl
              have HB := Lib.hid hB
              have HD := Lib.hid hD
              clear hX hcl hB hD hR hp
              refine wpOp_step rfl (fun K hK => ?_)
              simp only [putAll, Act.put, List.setIfInBounds_toArray, List.set_cons_succ, List.set_cons_zero]
              go_simp
              exact hK _ _ ⟨undef, (by show _ = Act.put _ (none) _; simp only [putAll, Act.put, List.setIfInBounds_toArray, List.set_cons_succ, List.set_cons_zero, *]; all_goals rfl), trivial, trivial, rfl⟩
            exact trivial
          · intro D f w14 hD hB hR hX'
            have hw : w14 = (w12.drew.setCell ⟨gC, i, none⟩ (.int .i64 x)).setCell ⟨gM, i, none⟩ (.slice a5 n5 c5) := by
              have h := hX'
              unfold WXg at h
              rw [hD 10 (by decide)] at h
              exact h
            clear hB hR hX' hD XC
            have hCd : w12.drew.ownsRow gC 3 1 (.slice (some ⟨gC, 0, none⟩) N N) N (flA N cI i) := hC12
            have hMd : w12.drew.ownsRow gM 31 1 (.slice (some ⟨gM, 0, none⟩) N N) N rl := hM12
            obtain ⟨hs1, hg1⟩ := hCd.stored i (.int .i64 x)
            have hs1 : (w12.drew.setCell ⟨gC, i, none⟩ (.int .i64 x)).ownsRow gC 3 1 (.slice (some ⟨gC, 0, none⟩) N N) N (flA N cI (i + 1)) := by
              rw [← flA_set hlt, HCF.out i, ← HXE.out]; exact hs1
            have hM1 := hMd.kept (gbs w12.drew gC i (.int .i64 x)) (.inr (by simp [Value.ownBlock]; omega))
            obtain ⟨hs2, hg2⟩ := hM1.stored i (.slice a5 n5 c5)
            have hC2 := hs1.kept (gbs _ gM i (.slice a5 n5 c5)) (.inr (by simp [Value.ownBlock]; omega))
            obtain ⟨curC, hbC⟩ := row_blk hCd
            obtain ⟨curM, hbM⟩ := row_blk hM1
            have hF5 : Fr 0 w12.drew a5 c5 (dig (r i)) := HF5.out
            have hR1 : RemP (w12.drew.setCell ⟨gC, i, none⟩ (.int .i64 x)) gM i r := (show RemP w12.drew gM i r from hR12).setne hbC (by decide) hCM
            have hcz : N ≤ curM.size := by
              rcases hM1.2 with ⟨e0, _⟩ | ⟨g', cap', cur', e0, _, hg', h3, _, hsz, _⟩
              · cases e0
              · cases e0
                rw [hbM] at hg'
                cases hg'
                omega
            have hR2 : RemP ((w12.drew.setCell ⟨gC, i, none⟩ (.int .i64 x)).setCell ⟨gM, i, none⟩ (.slice a5 n5 c5)) gM (i + 1) r := by
              rw [HN5.out]
              exact hR1.put hbM (by omega) (hF5.setne hbC (by decide))
            have hX2 : ((w12.drew.setCell ⟨gC, i, none⟩ (.int .i64 x)).setCell ⟨gM, i, none⟩ (.slice a5 n5 c5)).heap[gX]? = some (.cells #[.slice (some ⟨gM, 0, none⟩) N N] 53 (0, 0)) := by
              rw [Below.heap_setCell _ _ _ _ (by show gX ≠ gM; have := HORD.out; omega), Below.heap_setCell _ _ _ _ (by show gX ≠ gC; have := HORD.out; omega)]
              exact hX12
            have hB12 : Below G w5 w12 := hb.out.trans (HB12.out.mono (by rw [HG.out]; exact (by have := hb.out.size; exact this)))
            have hB2 : Below G w5 ((w12.drew.setCell ⟨gC, i, none⟩ (.int .i64 x)).setCell ⟨gM, i, none⟩ (.slice a5 n5 c5)) := ((hB12.drew).setCell (by show G ≤ gC; exact HORD.out.1) _).setCell (by show G ≤ gM; have := HORD.out; omega) _
            rw [← hw] at hs2 hC2 hR2 hX2 hB2
            have HC14 := Lib.hid hC2
            have HM14 := Lib.hid hs2
            have HR14 := Lib.hid hR2
            have HX14 := Lib.hid hX2
            have HB14 := Lib.hid hB2
            have HL14 : Hid (l - x = (t : Int) - ((sN c (i + 1) : Nat) : Int)) := by have h1 := hl.out; have h2 := HXE.out; unfold Hid; rw [show sN c (i + 1) = sN c i + c i from rfl]; omega
            have hlw : IntKind.i64.wrap (l - x) = l - x := IntWalk.i64_in _ (by have h1 := hl.out; have h2 := HSB.out i hlt; have h3 : sN c (i + 1) = sN c i + c i := rfl; have h4 := HXE.out; omega)
            clear hw hCd hMd hs1 hg1 hM1 hs2 hg2 hC2 hbC hbM hF5 hR1 hcz hR2 hX2 hB12 hB2 hC12 hM12 hR12 hX12 x0 hu0 uf hu1 mf
            simp only [putAll, Act.put, List.setIfInBounds_toArray, List.set_cons_succ, List.set_cons_zero]
            go_wp2_with fail
            go_roundw
            case rel => exact ⟨i + 1, l - x, _, by omega, by go_num, rfl, HL14, HC14, HM14, HR14, HX14, HB14⟩
            case measure => simp [intOf]; omega
        · obtain rfl : i = N := by omega
          have hlt2 : ¬ (i : Int) < (i : Int) := by omega
          obtain ⟨lf, hlf⟩ : ∃ lf : Nat, lf = t - sN c i := ⟨_, rfl⟩
          have hlfN : lf ≤ i := by have := HLF.out; omega
          obtain rfl : l = (lf : Int) := by have := hl.out; have := HLF.out; omega
          have HLE := Lib.hid hlf
          have hrem : RemG wr gX gM i i r := ⟨by have := hX.out; simp [World.cell?, this], hR.out⟩
          obtain ⟨od, ho, hod⟩ := ranked_rem gX gM i i KP r h0 h19 (Nat.le_refl _) HSr.out
          have RK := Lib.hid (hod wr hrem)
          have HOD := Lib.hid ho
          have hCl := (hC.out.lt gC rfl).2
          have hBw : Hid (Below w.heap.size w wr) := HB5.out.trans (hb.out.mono (by rw [HG.out]; exact HB5.out.size))
          have hGw : w.heap.size ≤ G := by rw [HG.out]; exact HB5.out.size
          clear hrem hl hod ho hlf
          go_wp2_with fail
          refine RK.out.mono ?_; rintro e w15 ⟨gU, rfl, hU, bU⟩
          have hUl := hU.lt gU rfl
          have hUC : gU ≠ gC := by omega
          have HC15 : Hid (w15.ownsRow gC 3 1 (.slice (some ⟨gC, 0, none⟩) i i) i (rowF i (fun j => (c j : Int) + (upN od 0 j : Nat)))) := by
            have e : rowF i (fun j => (c j : Int) + (upN od 0 j : Nat)) = flA i cI i := by
              rw [flA_all]
              unfold rowF
              apply List.map_congr_left
              intro j _
              show Value.int .i64 ((c j : Int) + ((upN od 0 j : Nat) : Int)) = Value.int .i64 (cI j)
              rw [upN_zero, HCF.out j]
              simp
            unfold Hid
            rw [e]
            exact row_below hC.out bU
          obtain ⟨BU, hBU⟩ : ∃ b, b = wr.heap.size := ⟨_, rfl⟩
          rw [← hBU] at hU
          have HU15 := Lib.hid hU
          clear hBU
          have HB15 : Hid (Below w.heap.size w w15) := hBw.out.trans (bU.mono hBw.out.size)
          clear hU bU hUl RK
          have hlfI : (lf : Int) ≤ (i : Int) := by omega
          have hlf0 : (0 : Int) ≤ (lf : Int) := by omega
          go_wp2_with fail
          go_loopw [91] (fun s91 wq => ∃ k : Nat, k ≤ lf ∧ s91 = .int .i64 (k : Int) ∧ Hid (wq.ownsRow gC 3 1 (.slice (some ⟨gC, 0, none⟩) i i) i (rowF i (fun j => (c j : Int) + (upN od k j : Nat)))) ∧ Hid (wq.ownsRow BU 3 1 (.slice (some ⟨gU, 0, none⟩) i i) i (od.map fun (j : Nat) => Value.int .i64 (j : Int))) ∧ Hid (Below w.heap.size w wq)) (fun s91 _ => lf - (intOf s91).toNat)
          case atStart => exact ⟨0, by omega, rfl, HC15, HU15, HB15⟩
          case round =>
            obtain ⟨k', hk, rfl, hC9, hU9, hB9⟩ := hrel
            by_cases hlk : k' < lf
            · have hlk2 : (k' : Int) < (lf : Int) := by omega
              have hkN : k' < i := by omega
              obtain ⟨y, hy⟩ : ∃ y, y = od.getD k' 0 := ⟨_, rfl⟩
              have hyN : y < i := by rw [hy]; exact HOD.out.get hkN
              have v0 : wr.cell? ⟨gU, k', none⟩ = some (.int .i64 (y : Int)) := (hU9.out.cellAt k' (by omega)).trans (by rw [hy]; have := HOD.out.len; simp [List.getD, show k' < od.length by omega])
              obtain ⟨z, hz⟩ : ∃ z : Int, z = (c y : Int) + (upN od k' y : Nat) := ⟨_, rfl⟩
              have hzb : 0 ≤ z ∧ z ≤ 1048577 := by have := HCB.out y hyN; rw [hz]; unfold upN; split <;> omega
              have c0 : wr.cell? ⟨gC, y, none⟩ = some (.int .i64 z) := (hC9.out.cellAt y (by omega)).trans (by rw [rowF_get hyN, hz])
              have f0 := hC9.out.frozenAt y
              obtain ⟨hs, hg⟩ := hC9.out.stored y (.int .i64 (z + 1))
              have HS : Hid ((wr.setCell ⟨gC, y, none⟩ (.int .i64 (z + 1))).ownsRow gC 3 1 (.slice (some ⟨gC, 0, none⟩) i i) i (rowF i (fun j => (c j : Int) + (upN od (k' + 1) j : Nat)))) := by
                unfold Hid
                rw [← rowF_up HOD.out (fun j => (c j : Int)) hkN, ← hy, ← hz]
                exact hs
              have HU : Hid ((wr.setCell ⟨gC, y, none⟩ (.int .i64 (z + 1))).ownsRow BU 3 1 (.slice (some ⟨gU, 0, none⟩) i i) i (od.map fun (j : Nat) => Value.int .i64 (j : Int))) := hU9.out.kept (gbs wr gC y (.int .i64 (z + 1))) (.inr (by simp [Value.ownBlock]; omega))
              have HBS : Hid (Below w.heap.size w (wr.setCell ⟨gC, y, none⟩ (.int .i64 (z + 1)))) := hB9.out.setCell (by show w.heap.size ≤ gC; have := HORD.out; omega) _
              have hzw : IntKind.i64.wrap (z + 1) = z + 1 := IntWalk.i64_in _ (by omega)
              have hyI : (y : Int) < (i : Int) := by omega
              clear hs hg hC9 hU9 hB9 hy hz
              go_wp2_with fail
              go_roundw
              case rel => exact ⟨k' + 1, by omega, by go_num, HS, HU, HBS⟩
              case measure => simp [intOf]; omega
            · obtain rfl : k' = lf := by omega
              have hlk2 : ¬ (k' : Int) < (k' : Int) := by omega
              go_wp2_with fail
              refine bodyPost_ret (v := .tuple #[.slice (some ⟨gC, 0, none⟩) i i, .int .i64 0]) (by simp [results, Try.results9, go_sem]) rfl ?_
              exact ⟨od, gC, HOD.out, rfl, by rw [← HLE.out]; exact row_lift hC9.out (by have := HORD.out; omega), hB9.out⟩
end Go.Proofs.Ytcnghhlchjcdhaa.Dr
/- Allocate where it fails: the sizes, the total. -/
namespace Go.Proofs.Ytcnghhlchjcdhaa.Dr
open Go.RowKit Go.Sort C6

set_option maxHeartbeats 8000000 in
set_option maxRecDepth 100000 in
theorem Allocate_sizes (tot : Int) (N k : Nat) (ao : Option Addr) (cap : Nat) (rs : List RV) (f : Nat → Rat) (w : World) (hN : N ≤ 200) (h : RdR w ao cap rs) (hf : RL w rs f N k) (ha : (allP f N && anyP f N) = false) :
    Calls Try.prog 9 #[.int .i64 tot, .slice ao N cap] w fun e w' => e = .returned (.tuple #[.slice none 0 0, .int .i64 100]) ∧ Below w.heap.size w w' := by
  have AS := areShares_v ao cap N k rs f w hN h hf
  rw [ha] at AS
  have AS := Lib.hid AS
  clear h hf ha
  go_enter Try.func9, Try.ntmps9
  go_wp2_with fail
  refine AS.out.mono ?_; rintro e w2 ⟨rfl, b2⟩
  have HB := Lib.hid b2
  clear b2 AS
  go_wp2_with fail
  refine bodyPost_ret (v := .tuple #[.slice none 0 0, .int .i64 100]) (by simp [results, Try.results9, go_sem]) rfl ?_
  exact ⟨rfl, HB.out⟩
set_option maxHeartbeats 8000000 in
set_option maxRecDepth 100000 in
theorem Allocate_total (tot : Int) (N k : Nat) (ao : Option Addr) (cap : Nat) (rs : List RV) (f : Nat → Rat) (w : World) (hN : N ≤ 200) (h : RdR w ao cap rs) (hf : RL w rs f N k) (ha : (allP f N && anyP f N) = true) (ht : tot < 0 ∨ 1048576 < tot) :
    Calls Try.prog 9 #[.int .i64 tot, .slice ao N cap] w fun e w' => e = .returned (.tuple #[.slice none 0 0, .int .i64 101]) ∧ Below w.heap.size w w' := by
  have AS := areShares_v ao cap N k rs f w hN h hf
  rw [ha] at AS
  have AS := Lib.hid AS
  clear h hf ha
  go_enter Try.func9, Try.ntmps9
  go_wp2_with fail
  refine AS.out.mono ?_; rintro e w2 ⟨rfl, b2⟩
  have HB := Lib.hid b2
  clear b2 AS
  by_cases h0 : tot < 0
  · have hE1 : decide (tot < 0) = true := decide_eq_true h0
    clear ht
    go_wp2_with fail
    refine bodyPost_ret (v := .tuple #[.slice none 0 0, .int .i64 101]) (by simp [results, Try.results9, go_sem]) rfl ?_
    exact ⟨rfl, HB.out⟩
  · have hE0 : (0 : Int) ≤ tot := by omega
    have hE1 : decide (tot < 0) = false := decide_eq_false h0
    have hE3 : 1048576 < tot := by omega
    have hE2 : decide ((1048576 : Int) < tot) = true := decide_eq_true hE3
    clear ht h0
    go_wp2_with fail
    refine bodyPost_ret (v := .tuple #[.slice none 0 0, .int .i64 101]) (by simp [results, Try.results9, go_sem]) rfl ?_
    exact ⟨rfl, HB.out⟩
end Go.Proofs.Ytcnghhlchjcdhaa.Dr
/- Allocate: any total and any numbers. -/
namespace Go.Proofs.Ytcnghhlchjcdhaa.Dr
open Go.RowKit

theorem RL.sm {w : World} {rs : List RV} {f : Nat → Rat} {N k : Nat} (h : RL w rs f N k) {i : Nat} (hi : i < N) : Sm (rn (f i)) k ∧ Sm (f i).den k := by
  obtain ⟨N0, D0, _, _, sn, _, e, sd⟩ := h.2 i hi
  rw [← e]
  exact ⟨Sm.of_le sn (rq_le (dn_pos D0)).1, Sm.of_le sd (rq_le (dn_pos D0)).2⟩
/-- the whole part of a unit's share, and its remainder -/
def cntA (f : Nat → Rat) (N t i : Nat) : Nat := t * pA f (Lm f N) i / sN (pA f (Lm f N)) N
def remA (f : Nat → Rat) (N t i : Nat) : Nat := t * pA f (Lm f N) i % sN (pA f (Lm f N)) N
/-- what Allocate gives, its errors in order -/
def AllPost (N : Nat) (tot : Int) (f : Nat → Rat) (w : World) (e : Ending) (w' : World) : Prop :=
  ((allP f N && anyP f N) = false ∧ e = .returned (.tuple #[.slice none 0 0, .int .i64 100]) ∧ Below w.heap.size w w') ∨
  ((allP f N && anyP f N) = true ∧ (tot < 0 ∨ 1048576 < tot) ∧ e = .returned (.tuple #[.slice none 0 0, .int .i64 101]) ∧ Below w.heap.size w w') ∨
  ((allP f N && anyP f N) = true ∧ ∃ t : Nat, tot = (t : Int) ∧ t ≤ 1048576 ∧ AllocPost N t (cntA f N t) (remA f N t) w e w')
theorem Allocate_v (tot : Int) (N k : Nat) (ao : Option Addr) (cap : Nat) (rs : List RV) (f : Nat → Rat) (w : World) (hN : N ≤ 19) (hk : 1 ≤ k ∧ k ≤ 20) (h : RdR w ao cap rs) (hf : RL w rs f N k) :
    Calls Try.prog 9 #[.int .i64 tot, .slice ao N cap] w (AllPost N tot f w) := by
  cases ha : (allP f N && anyP f N) with
  | false => exact (Allocate_sizes tot N k ao cap rs f w (by omega) h hf ha).mono fun e w' hh => .inl ⟨ha, hh⟩
  | true =>
    by_cases ht : tot < 0 ∨ 1048576 < tot
    · exact (Allocate_total tot N k ao cap rs f w (by omega) h hf ha ht).mono fun e w' hh => .inr (.inl ⟨ha, ht, hh⟩)
    · obtain ⟨t, rfl⟩ : ∃ t : Nat, tot = (t : Int) := ⟨tot.toNat, by omega⟩
      have hb := Bool.and_eq_true_iff.1 ha
      have h0 : 0 < N := by
        obtain ⟨i, hi, _⟩ := (anyP_iff f N).1 hb.2
        omega
      have hL := Lm_sm (q := f) hk.1 hN (by omega) (fun i hi => (hf.sm hi).2)
      have hS := pA_sm (q := f) (K := k * 19) (L := Lm f N) hN (hL N (Nat.le_refl _)) (by omega) (fun i hi => (hf.sm hi).1)
      exact (Allocate_ok t N k (k * 19) (k + k * 19 + 1) ao cap rs f w (by omega) h0 hN h hf (by omega) (by omega) hL ⟨by omega, by omega⟩ hS ha (sN_pos hb.1 hb.2)).mono fun e w' hh => .inr (.inr ⟨ha, t, rfl, by omega, hh⟩)
end Go.Proofs.Ytcnghhlchjcdhaa.Dr
/- Numbers over one denominator, read from memory; a number put into an ascending list. -/
namespace Go.Proofs.Ytcnghhlchjcdhaa.Dr
open Go.RowKit Go.Sort C6

/-- the rows rs hold the numbers us over A -/
def Lq (w : World) (A : Int) (us : List Int) (rs : List RV) : Prop := Inc w us.length rs (fun j => some (fq (us.getD j 0) A))
theorem Lq.len {w : World} {A : Int} {us : List Int} {rs : List RV} (h : Lq w A us rs) : rs.length = us.length := h.1
theorem Lq.cq {w : World} {A : Int} {us : List Int} {rs : List RV} (h : Lq w A us rs) {j : Nat} (hj : j < us.length) : CQ 0 w (rs.getD j RV.nil).s (rs.getD j RV.nil).ao (rs.getD j RV.nil).n (rs.getD j RV.nil).ca (rs.getD j RV.nil).bo (rs.getD j RV.nil).m (rs.getD j RV.nil).cb (fq (us.getD j 0) A) 2 := h.2 j hj _ rfl
theorem Lq.mk' {w : World} {A : Int} {us : List Int} {rs : List RV} (hl : rs.length = us.length) (h : ∀ j, j < us.length → CQ 0 w (rs.getD j RV.nil).s (rs.getD j RV.nil).ao (rs.getD j RV.nil).n (rs.getD j RV.nil).ca (rs.getD j RV.nil).bo (rs.getD j RV.nil).m (rs.getD j RV.nil).cb (fq (us.getD j 0) A) 2) : Lq w A us rs :=
  ⟨hl, fun j hj q hq => by cases hq; exact h j hj⟩
theorem Lq.nil (w : World) (A : Int) : Lq w A [] [] := Lq.mk' rfl (fun j hj => by simp at hj)
theorem Lq.one {w : World} {A v : Int} {r : RV} (h : CQ 0 w r.s r.ao r.n r.ca r.bo r.m r.cb (fq v A) 2) : Lq w A [v] [r] := Lq.mk' rfl (fun j hj => by
  obtain rfl : j = 0 := by simpa using hj
  exact h)
theorem getD_app {α : Type} (l m : List α) (d : α) (j : Nat) : (l ++ m).getD j d = if j < l.length then l.getD j d else m.getD (j - l.length) d := by
  unfold List.getD
  rw [List.getElem?_append]
  split <;> rfl
theorem getD_tk {α : Type} (l : List α) (d : α) {j k : Nat} (h : j < k) : (l.take k).getD j d = l.getD j d := by
  unfold List.getD
  rw [List.getElem?_take, if_pos h]
theorem getD_dr {α : Type} (l : List α) (d : α) (j k : Nat) : (l.drop k).getD j d = l.getD (k + j) d := by
  unfold List.getD
  rw [List.getElem?_drop]
theorem Lq.app {w : World} {A : Int} {us vs : List Int} {rs ps : List RV} (h : Lq w A us rs) (g : Lq w A vs ps) : Lq w A (us ++ vs) (rs ++ ps) := Lq.mk' (by rw [List.length_append, List.length_append, h.len, g.len]) (fun j hj => by
  rw [getD_app, getD_app, h.len]
  by_cases e : j < us.length
  · rw [if_pos e, if_pos e]; exact h.cq e
  · rw [if_neg e, if_neg e]
    rw [List.length_append] at hj
    exact g.cq (by omega))
theorem Lq.take {w : World} {A : Int} {us : List Int} {rs : List RV} (h : Lq w A us rs) (k : Nat) : Lq w A (us.take k) (rs.take k) := Lq.mk' (by rw [List.length_take, List.length_take, h.len]) (fun j hj => by
  rw [List.length_take] at hj
  rw [getD_tk _ _ (by omega), getD_tk _ _ (by omega)]
  exact h.cq (by omega))
theorem Lq.drop {w : World} {A : Int} {us : List Int} {rs : List RV} (h : Lq w A us rs) (k : Nat) : Lq w A (us.drop k) (rs.drop k) := Lq.mk' (by rw [List.length_drop, List.length_drop, h.len]) (fun j hj => by
  rw [List.length_drop] at hj
  rw [getD_dr, getD_dr]
  exact h.cq (by omega))
theorem Lq.below {w w' : World} {A : Int} {us : List Int} {rs : List RV} (h : Lq w A us rs) (b : Below w.heap.size w w') : Lq w' A us rs := Inc.below h b
theorem Lq.keep {w w' : World} {A : Int} {us : List Int} {rs : List RV} {base l : Nat} {v : Value} {vs : List Value} (h : Lq w A us rs) (ho : w.ownsRow base 33 3 v l vs) (g : w.grownBy w' v.ownBlock) : Lq w' A us rs := Inc.keep h ho g
theorem rvs_app (rs ps : List RV) : rvs (rs ++ ps) = rvs rs ++ rvs ps := by simp [rvs]
theorem rvs_tk (rs : List RV) (k : Nat) : rvs (rs.take k) = (rvs rs).take (k * 3) := by
  induction rs generalizing k with
  | nil => simp [rvs]
  | cons r rs ih =>
    cases k with
    | zero => simp [rvs]
    | succ k =>
      rw [List.take_succ_cons, show rvs (r :: rs.take k) = [.bool r.s, .slice r.ao r.n r.ca, .slice r.bo r.m r.cb] ++ rvs (rs.take k) by simp [rvs, RV.vals], show rvs (r :: rs) = [.bool r.s, .slice r.ao r.n r.ca, .slice r.bo r.m r.cb] ++ rvs rs by simp [rvs, RV.vals], ih, show (k + 1) * 3 = k * 3 + 3 by omega]
      rfl
theorem rvs_dr (rs : List RV) (k : Nat) : rvs (rs.drop k) = (rvs rs).drop (k * 3) := by
  induction rs generalizing k with
  | nil => simp [rvs]
  | cons r rs ih =>
    cases k with
    | zero => simp
    | succ k =>
      rw [List.drop_succ_cons, show rvs (r :: rs) = [.bool r.s, .slice r.ao r.n r.ca, .slice r.bo r.m r.cb] ++ rvs rs by simp [rvs, RV.vals], ih, show (k + 1) * 3 = k * 3 + 3 by omega]
      rfl
theorem rvs_one (rs : List RV) : ∀ u ∈ rvs rs, u.oneCell' = true := by
  intro u hu
  unfold rvs at hu
  obtain ⟨r, _, hr⟩ := List.mem_flatMap.1 hu
  simp [RV.vals] at hr
  rcases hr with rfl | rfl | rfl <;> rfl
/-- the cells of a list of numbers -/
theorem rdr_cells {w : World} {b o c : Nat} {rs : List RV} (h : RdR w (some ⟨b, o, none⟩) c rs) : ∀ j u, (rvs rs)[j]? = some u → w.cell? ⟨b, o + j, none⟩ = some u := by
  intro j u hj
  have hlt := (List.getElem?_eq_some_iff.1 hj).1
  rw [rvs_length] at hlt
  obtain ⟨b', o', e', hc⟩ := h.at (by omega)
  cases e'
  obtain ⟨k0, k1, k2⟩ := hc (j / 3) (by omega)
  obtain ⟨v0, v1, v2⟩ := rvs_at rs (j / 3) (by omega)
  have h3 : j % 3 = 0 ∨ j % 3 = 1 ∨ j % 3 = 2 := by omega
  rcases h3 with h3 | h3 | h3
  · have e : j = j / 3 * 3 := by omega
    rw [e] at hj ⊢
    rw [v0] at hj
    rw [← Option.some.inj hj]
    exact k0
  · have e : j = j / 3 * 3 + 1 := by omega
    rw [e] at hj ⊢
    rw [v1] at hj
    rw [← Option.some.inj hj, ← Nat.add_assoc]
    exact k1
  · have e : j = j / 3 * 3 + 2 := by omega
    rw [e] at hj ⊢
    rw [v2] at hj
    rw [← Option.some.inj hj, ← Nat.add_assoc]
    exact k2
theorem strict_ext {l m : List Int} (hl : l.Pairwise (· < ·)) (hm : m.Pairwise (· < ·)) (h : ∀ v, v ∈ l ↔ v ∈ m) : l = m := by
  have nl : l.Nodup := hl.imp (fun h => by omega)
  have nm : m.Nodup := hm.imp (fun h => by omega)
  exact List.Perm.eq_of_pairwise (le := fun (a b : Int) => a < b) (fun a b _ _ h1 h2 => by omega) hl hm ((List.perm_ext_iff_of_nodup nl nm).2 h)
theorem ins_up {vs : List Int} (h : vs.Pairwise (· < ·)) {k : Nat} {v : Int} (h1 : ∀ x ∈ vs.take k, x < v) (h2 : ∀ x ∈ vs.drop k, v < x) : (vs.take k ++ v :: vs.drop k).Pairwise (· < ·) := by
  rw [List.pairwise_append]
  refine ⟨h.sublist (List.take_sublist k vs), List.pairwise_cons.2 ⟨h2, h.sublist (List.drop_sublist k vs)⟩, fun a ha b hb => ?_⟩
  have := h1 a ha
  rcases List.mem_cons.1 hb with rfl | hb
  · exact this
  · have := h2 b hb
    omega
theorem ins_mem {vs : List Int} (k : Nat) (v y : Int) : y ∈ vs.take k ++ v :: vs.drop k ↔ y = v ∨ y ∈ vs := by
  have h : y ∈ vs ↔ y ∈ vs.take k ∨ y ∈ vs.drop k := by
    rw [← List.mem_append, List.take_append_drop]
  rw [List.mem_append, List.mem_cons, h]
  constructor
  · rintro (h | h | h)
    · exact .inr (.inl h)
    · exact .inl h
    · exact .inr (.inr h)
  · rintro (h | h | h)
    · exact .inr (.inl h)
    · exact .inl h
    · exact .inr (.inr h)
theorem cq_fq {a b A : Int} (hA : 1 ≤ A) (ha : 0 ≤ a) (hb : 0 ≤ b) : (cq (fq a A) (fq b A) < 0 ↔ a < b) ∧ (cq (fq a A) (fq b A) = 0 ↔ a = b) := by
  have e : ∀ z : Int, 0 ≤ z → fq z A = mkRat z A.natAbs := fun z hz => by
    unfold fq rq
    rw [decide_eq_false (show ¬ z < 0 by omega), decide_eq_false (show ¬ A < 0 by omega)]
    congr 1
    show (if _ then _ else _) = _
    rw [if_neg (by decide)]
    omega
  rw [e a ha, e b hb, cq_mk (by omega) (by omega)]
  have h1 : a * (A.natAbs : Int) - b * (A.natAbs : Int) = (a - b) * A := by rw [← Int.sub_mul]; congr 1; omega
  rw [h1]
  have h2 : (a - b) * A < 0 ↔ a < b := by
    constructor
    · intro h
      by_cases e : a < b
      · exact e
      · have := Int.mul_nonneg (show 0 ≤ a - b by omega) (show 0 ≤ A by omega)
        omega
    · intro h
      have := Int.mul_pos (show 0 < b - a by omega) (show 0 < A by omega)
      have e : (a - b) * A = -((b - a) * A) := by rw [← Int.neg_mul]; congr 1; omega
      omega
  have h3 : (a - b) * A = 0 ↔ a = b := by
    constructor
    · intro h
      rcases Int.mul_eq_zero.1 h with h | h <;> omega
    · rintro rfl; simp
  by_cases c1 : (a - b) * A < 0
  · rw [if_pos c1]
    have := h2.1 c1
    exact ⟨⟨fun _ => this, fun _ => by omega⟩, ⟨fun h => by omega, fun h => by omega⟩⟩
  · rw [if_neg c1]
    have c2 : ¬ a < b := fun h => c1 (h2.2 h)
    by_cases c3 : (a - b) * A = 0
    · rw [if_pos c3]
      have := h3.1 c3
      exact ⟨⟨fun h => by omega, fun h => by omega⟩, ⟨fun _ => this, fun _ => rfl⟩⟩
    · rw [if_neg c3]
      have c4 : ¬ a = b := fun h => c3 (h3.2 h)
      exact ⟨⟨fun h => by omega, fun h => by omega⟩, ⟨fun h => by omega, fun h => absurd h c4⟩⟩
end Go.Proofs.Ytcnghhlchjcdhaa.Dr
/- The reference's put: a number into an ascending list. -/
namespace Go.Proofs.Ytcnghhlchjcdhaa.Dr
open Go.RowKit Go.Sort C6

/-- what put gives -/
def PutP (vs : List Int) (A v : Int) (n : Nat) (w w' : World) (a' : Option Addr) (n' c' : Nat) : Prop := ∃ us : List Int, n' = us.length ∧ us.Pairwise (· < ·) ∧ (∀ y, y ∈ us ↔ y = v ∨ y ∈ vs) ∧ us.length ≤ n + 1 ∧ RdN w' a' c' n' (fun j => fq (us.getD j 0) A) ∧ Below w.heap.size w w'

end Go.Proofs.Ytcnghhlchjcdhaa.Dr
/- The reference's Breaks. -/
namespace Go.Proofs.Ytcnghhlchjcdhaa.Dr
open Go.RowKit Go.Sort C6

theorem fq_frac {p A : Int} (hA : 1 ≤ A) (hp : 0 ≤ p) : fq p A - fq (p / A) 1 = fq (p % A) A := by
  have h1 := Int.ediv_nonneg hp (show 0 ≤ A by omega)
  have h2 := Int.emod_nonneg p (show A ≠ 0 by omega)
  have h3 := Int.mul_ediv_add_emod p A
  have hA' : (A : Rat) ≠ 0 := by
    have : ((0 : Int) : Rat) < (A : Rat) := Rat.intCast_lt_intCast.2 (by omega)
    intro h
    rw [h] at this
    exact absurd this (by decide)
  obtain ⟨q, hq⟩ : ∃ q, q = p / A := ⟨_, rfl⟩
  obtain ⟨r, hr⟩ : ∃ r, r = p % A := ⟨_, rfl⟩
  rw [← hq] at h1 h3 ⊢
  rw [← hr] at h2 h3 ⊢
  rw [fq_div (by omega) hp, fq_div (by omega) h1, fq_div (by omega) h2, ← h3, Rat.intCast_add, Rat.intCast_mul]
  have e1 : ((1 : Int) : Rat) = 1 := rfl
  rw [e1, Rat.div_def, Rat.div_def, Rat.div_def]
  grind

end Go.Proofs.Ytcnghhlchjcdhaa.Dr
/- SampleShares' mathematics: the parts add up to the total, each less than 1 off its share. -/
namespace Go.Proofs.Ytcnghhlchjcdhaa.Dr
open Go.RowKit

/-- a part -/
def partA (f : Nat → Rat) (N t : Nat) (od : List Nat) (i : Nat) : Nat := cntA f N t i + upN od (t - sN (cntA f N t) N) i
theorem parts_sum {f : Nat → Rat} {N t : Nat} {od : List Nat} {x : Nat → Int} (ho : Ord N x od) (h0 : 0 < N) (hP : 0 < sN (pA f (Lm f N)) N) : sN (partA f N t od) N = t := by
  have h := left_lt (t := t) (p := pA f (Lm f N)) h0 hP rfl
  have e : sN (partA f N t od) N = sN (cntA f N t) N + sN (upN od (t - sN (cntA f N t) N)) N := sN_add _ _ N
  have h' : sN (cntA f N t) N ≤ t ∧ t - sN (cntA f N t) N < N := h
  rw [e, sN_up ho _ (by omega)]
  omega
theorem sum_range (f : Nat → Nat) : ∀ N, ((List.range N).map fun i => ((f i : Nat) : Int)).sum = ((sN f N : Nat) : Int)
  | 0 => rfl
  | N + 1 => by
    rw [List.range_succ, List.map_append, List.sum_append, sum_range f N, show sN f (N + 1) = sN f N + f N from rfl]
    simp
theorem rem_up {f : Nat → Rat} {N t : Nat} {od : List Nat} (ho : Ord N (fun i => ((remA f N t i : Nat) : Int)) od) (hP : 0 < sN (pA f (Lm f N)) N) {i : Nat} (hm : i ∈ od.take (t - sN (cntA f N t) N)) (h0 : 0 < N) : 0 < remA f N t i := by
  obtain ⟨P, hPd⟩ : ∃ P, P = sN (pA f (Lm f N)) N := ⟨_, rfl⟩
  have hl : sN (cntA f N t) N ≤ t ∧ t - sN (cntA f N t) N < N := left_lt (t := t) (p := pA f (Lm f N)) h0 hP rfl
  have hd : P * sN (cntA f N t) N + sN (remA f N t) N = t * P := by rw [hPd]; exact sN_div t (sN (pA f (Lm f N)) N) (pA f (Lm f N)) N
  obtain ⟨j, hj, hji⟩ := mem_take (by rw [ho.len]; omega) hm
  have hb : ∀ u, u < N → 0 ≤ ((remA f N t u : Nat) : Int) ∧ ((remA f N t u : Nat) : Int) < (P : Int) := fun u _ => by
    have h1 : remA f N t u < P := by rw [hPd]; exact Nat.mod_lt _ hP
    omega
  have e : T (fun i => ((remA f N t i : Nat) : Int)) od 0 = (P : Int) * ((t - sN (cntA f N t) N : Nat) : Int) := by
    rw [T_all ho, sum_range]
    have e2 : sN (remA f N t) N = P * (t - sN (cntA f N t) N) := by
      rw [Nat.mul_sub, Nat.mul_comm P t]
      omega
    rw [e2]
    exact Int.natCast_mul _ _
  have := up_pos ho hb e hj (by omega)
  rw [hji] at this
  omega
/-- no part is 1 or more off its share -/
theorem share_dev {f : Nat → Rat} {N t : Nat} {od : List Nat} (ha : allP f N = true) (hy : anyP f N = true) (ho : Ord N (fun i => ((remA f N t i : Nat) : Int)) od) {i : Nat} (hi : i < N) :
    (f i * (t : Rat) / qs f N - ((partA f N t od i : Nat) : Rat)) * (f i * (t : Rat) / qs f N - ((partA f N t od i : Nat) : Rat)) < 1 := by
  have hP := sN_pos ha hy
  have hs := (allP_iff f N).1 ha
  have hp : ∀ i, i < N → ((pA f (Lm f N) i : Nat) : Rat) = f i * (Lm f N : Rat) := fun i hi => pA_eq (sgn_nn.1 (hs i hi)) (Lm_den f N i hi)
  have e1 := share_eq (t := t) (Lm_pos f N) hP (hp i hi) (sN_rat N hp)
  have hPi : (1 : Int) ≤ ((sN (pA f (Lm f N)) N : Nat) : Int) := by omega
  have e2 := fq_frac (p := ((t * pA f (Lm f N) i : Nat) : Int)) hPi (by omega)
  rw [← Int.natCast_ediv, ← Int.natCast_emod] at e2
  have e3 : fq ((cntA f N t i : Nat) : Int) 1 = ((cntA f N t i : Nat) : Rat) := by
    rw [fq_div (by omega) (by omega), Rat.intCast_natCast]
    have h3 : (((1 : Int) : Rat)) = 1 := rfl
    rw [h3, Rat.div_def]
    grind
  have e4 : f i * (t : Rat) / qs f N - ((partA f N t od i : Nat) : Rat) = fq ((remA f N t i : Nat) : Int) ((sN (pA f (Lm f N)) N : Nat) : Int) - ((upN od (t - sN (cntA f N t) N) i : Nat) : Rat) := by
    unfold partA
    rw [e1, Rat.natCast_add, ← e3]
    have e2' : fq ((t * pA f (Lm f N) i : Nat) : Int) ((sN (pA f (Lm f N)) N : Nat) : Int) - fq ((cntA f N t i : Nat) : Int) 1 = fq ((remA f N t i : Nat) : Int) ((sN (pA f (Lm f N)) N : Nat) : Int) := e2
    rw [← e2']
    grind
  rw [e4]
  refine dev_lt hPi (by omega) (by have : remA f N t i < sN (pA f (Lm f N)) N := Nat.mod_lt _ hP; omega) ?_
  by_cases hm : i ∈ od.take (t - sN (cntA f N t) N)
  · right
    exact ⟨by unfold upN; rw [if_pos hm], by have := rem_up ho hP hm (by omega); omega⟩
  · left
    unfold upN
    rw [if_neg hm]
end Go.Proofs.Ytcnghhlchjcdhaa.Dr
