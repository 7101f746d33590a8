import Derived.Test.YtmhjimcdiglpcaaGreatDrF
import Derived.Test.YtmhjimcdiglpcaaGreatRDiv3
import Derived.Test.YtmhjimcdiglpcaaGreatDrE
import Derived.Test.YtmhjimcdiglpcaaGreatDrC
import Derived.Test.YtmhjimcdiglpcaaGreatRat10
/- The reference's Floor, at a quotient of integers that is not negative. -/
namespace Go.Proofs.YtmhjimcdiglpcaaGreat.Dr
open Go.RowKit Go.Sort C6

theorem field_nm (s : Bool) (a : Option Addr) (n c : Nat) (o : Option Addr) (m d : Nat) (w : World) : Sem.run Tryz.prog (Instr.field 35 (Value.agg #[.bool s, .slice a n c, .slice o m d]) 1) w = Result.ok (.slice a n c) w := by kernel_rfl
theorem cq_lowerD {B : Nat} {w : World} {s : Bool} {ao : Option Addr} {n ca : Nat} {bo : Option Addr} {m cb : Nat} {q : Rat} {k : Nat} (h : CQ B w s ao n ca bo m cb q k) : ∃ D, Num w bo m cb D ∧ dn D = q.den := by
  obtain ⟨_, _, h3, _, h5, _, h7⟩ := h
  exact ⟨val (dd q.den), ⟨dd q.den, h3, h5.rd, rfl, Nat.le_trans (dd_len _) h7.len⟩, val_dd (den_pos q)⟩
theorem cq_upperD {B : Nat} {w : World} {s : Bool} {ao : Option Addr} {n ca : Nat} {bo : Option Addr} {m cb : Nat} {q : Rat} {k : Nat} (h : CQ B w s ao n ca bo m cb q k) : Num w ao n ca (rn q) := by
  obtain ⟨_, h2, _, h4, _, h6, _⟩ := h
  rw [h2]; exact Num.of_fr h4 h6
set_option maxHeartbeats 4000000 in
set_option maxRecDepth 100000 in
theorem rDenominator_d (s : Bool) (ao bo : Option Addr) (n ca m cb k : Nat) (q : Rat) (w : World) (h : RQ w s ao n ca bo m cb q k) :
    Calls Tryz.prog 72 #[.agg #[.bool s, .slice ao n ca, .slice bo m cb]] w (Makes q.den w) := by
  have B0 := below_new w (.cells #[.bool s, .slice ao n ca, .slice bo m cb] 35)
  have Z0 := heap_alloc_new w (.cells #[.bool s, .slice ao n ca, .slice bo m cb] 35)
  obtain ⟨W1, hW1⟩ : ∃ W, W = w.alloc (.cells #[.bool s, .slice ao n ca, .slice bo m cb] 35) := ⟨_, rfl⟩
  rw [← hW1] at B0 Z0
  have NC : Hid (∀ w', Below w.heap.size w w' → Calls Tryz.prog 71 #[.agg #[.bool s, .slice ao n ca, .slice bo m cb]] w' (MakesQ q k w')) := fun w' hb => rNormalize_q s ao bo n ca m cb k q w' (h.below hb)
  obtain ⟨x0, x1, x2, _⟩ := at_block Z0
  clear h Z0
  go_enter Tryz.func72, Tryz.ntmps72
  go_wp2_with fail
  rw [← hW1]
  clear hW1
  refine (NC.out W1 B0).mono ?_; rintro e W2 ⟨s5, a5, n5, c5, o5, m5, d5, rfl, cq5, b5⟩
  have B2 := B0.trans (b5.mono B0.size)
  obtain ⟨D, hD, hdn⟩ := cq_lowerD cq5
  clear cq5 b5 x0 x1 x2
  go_wp2_with fail
  have DC := rden_num s5 a5 o5 n5 c5 m5 d5 D W2 hD
  rw [hdn] at DC
  refine DC.mono ?_; rintro e W3 ⟨a6, c6, rfl, f6, b6⟩
  have HF := Lib.hid (f6.mono B2.size)
  have HB := Lib.hid (B2.trans (b6.mono B2.size))
  clear DC hD hdn f6 b6 B2 B0
  go_wp2_with fail
  go_ret
  exact ⟨a6, c6, rfl, HF.out, HB.out⟩
theorem div_gcd (N D : Nat) (hD : 0 < D) : (N / Nat.gcd N D) / (D / Nat.gcd N D) = N / D := by
  have hg : 0 < Nat.gcd N D := Nat.gcd_pos_of_pos_right N hD
  obtain ⟨a, ha⟩ := Nat.gcd_dvd_left N D
  obtain ⟨b, hb⟩ := Nat.gcd_dvd_right N D
  obtain ⟨g, hgg⟩ : ∃ g, g = Nat.gcd N D := ⟨_, rfl⟩
  rw [← hgg] at ha hb hg ⊢
  rw [ha, hb, Nat.mul_div_cancel_left _ hg, Nat.mul_div_cancel_left _ hg, Nat.mul_div_mul_left _ _ hg]
theorem floor_fq {p A : Int} (hp : 0 ≤ p) (hA : 1 ≤ A) : rn (fq p A) / (fq p A).den = (p / A).toNat := by
  unfold fq
  rw [rn_rq (by omega), rd_rq (by omega), div_gcd _ _ (by omega)]
  obtain ⟨P, rfl⟩ : ∃ P : Nat, p = (P : Int) := ⟨p.toNat, by omega⟩
  obtain ⟨D, rfl⟩ : ∃ D : Nat, A = (D : Int) := ⟨A.toNat, by omega⟩
  rw [Int.natAbs_natCast, Int.natAbs_natCast, ← Int.natCast_ediv, Int.toNat_natCast]

set_option maxHeartbeats 8000000 in
set_option maxRecDepth 100000 in
theorem Floor_v (s : Bool) (ao bo : Option Addr) (n ca m cb k : Nat) (p A : Int) (hA : 1 ≤ A) (hp : 0 ≤ p ∧ p ≤ 4611686018427387904) (w : World) (h : RQ w s ao n ca bo m cb (fq p A) k) :
    Calls Tryz.prog 40 #[.agg #[.bool s, .slice ao n ca, .slice bo m cb]] w (MakesQ (fq (p / A) 1) 2 w) := by
  have fl := floor_fq hp.1 hA
  obtain ⟨q, hq⟩ : ∃ q, q = fq p A := ⟨_, rfl⟩
  rw [← hq] at h fl
  obtain ⟨F, hF⟩ : ∃ F, F = (p / A).toNat := ⟨_, rfl⟩
  have hF0 : 0 ≤ p / A := Int.ediv_nonneg hp.1 (by omega)
  have hFle : p / A ≤ p := Int.ediv_le_self _ hp.1
  have SF : Hid (Sm F 2) := sm2 (by omega)
  have HV : Hid (fq (p / A) 1 = rq false F 1) := by
    unfold Hid fq
    rw [decide_eq_false (show ¬ p / A < 0 by omega), show (p / A).natAbs = F by omega]
    rfl
  unfold Hid at HV
  rw [HV]
  rw [← hF] at fl
  clear HV hq hF hF0 hFle hA hp
  obtain ⟨W1, hW1⟩ : ∃ W, W = w.alloc (.cells #[.bool s, .slice ao n ca, .slice bo m cb] 35) := ⟨_, rfl⟩
  obtain ⟨W2, hW2⟩ : ∃ W, W = W1.alloc (.cells #[.bool false, .slice none 0 0, .slice none 0 0] 35) := ⟨_, rfl⟩
  obtain ⟨g, hg⟩ : ∃ g, g = w.heap.size + 1 := ⟨_, rfl⟩
  have b1 : Below w.heap.size w W1 := by rw [hW1]; exact below_new _ _
  have b2 : Below W1.heap.size W1 W2 := by rw [hW2]; exact below_new _ _
  have s1 : W1.heap.size = w.heap.size + 1 := by rw [hW1]; exact World.size_alloc _ _
  have x1 : W1.heap[w.heap.size]? = some (.cells #[.bool s, .slice ao n ca, .slice bo m cb] 35 (0, 0)) := by rw [hW1]; exact heap_alloc_new _ _
  have x2 := carry x1 b2
  have X2 : Hid (W2.heap[g]? = some (.cells #[.bool false, .slice none 0 0, .slice none 0 0] 35 (0, 0))) := by rw [hg, ← s1, hW2]; exact heap_alloc_new _ _
  have HB2 : Hid (Below w.heap.size w W2) := b1.trans (b2.mono b1.size)
  have S2 : Hid (W2.heap.size = g + 1) := by unfold Hid; rw [hW2, World.size_alloc, s1, hg]
  have K1 : Hid (∀ w', Below W2.heap.size W2 w' → w'.cell? ⟨w.heap.size, 0, none⟩ = some (.bool s) ∧ w'.cell? ⟨w.heap.size, 1, none⟩ = some (.slice ao n ca) ∧ w'.cell? ⟨w.heap.size, 2, none⟩ = some (.slice bo m cb)) := fun w' hb => by
    obtain ⟨k0, k1, k2, _⟩ := at_block (carry x2 hb)
    exact ⟨k0, k1, k2⟩
  have HR : Hid (∀ w', Below W2.heap.size W2 w' → RQ w' s ao n ca bo m cb q k) := fun w' hb => (h.below HB2.out).below hb
  have NC : Hid (∀ w', Below W2.heap.size W2 w' → Calls Tryz.prog 71 #[.agg #[.bool s, .slice ao n ca, .slice bo m cb]] w' (MakesQ q k w')) := fun w' hb => rNormalize_q s ao bo n ca m cb k q w' (HR.out w' hb)
  obtain ⟨nD, hnD⟩ : ∃ n, n = (dig q.den).length := ⟨_, rfl⟩
  have hden := den_pos q
  have SD : Hid (Sm q.den k) := by
    obtain ⟨N0, D0, _, _, _, _, e0, sd0⟩ := h
    rw [← e0]
    exact Sm.of_le sd0 (rq_le (dn_pos D0)).2
  have DC : Hid (∀ w', Below W2.heap.size W2 w' → Calls Tryz.prog 72 #[.agg #[.bool s, .slice ao n ca, .slice bo m cb]] w' fun e w'' => ∃ a c, e = .returned (.slice a nD c) ∧ Num w'' a nD c q.den ∧ Below w'.heap.size w' w'') := fun w' hb => (rDenominator_d s ao bo n ca m cb k q w' (HR.out w' hb)).mono (by
    rintro e w'' ⟨a, c, rfl, f, b⟩
    rw [hnD]
    exact ⟨a, c, rfl, Num.of_fr f SD.out, b⟩)
  obtain ⟨nQ, hnQ⟩ : ∃ n, n = (dig F).length := ⟨_, rfl⟩
  obtain ⟨nR, hnR⟩ : ∃ n, n = (dig (rn q % q.den)).length := ⟨_, rfl⟩
  have DV : Hid (∀ w' a n' c b m' d, Num w' a n' c (rn q) → Num w' b m' d q.den → Calls Tryz.prog 70 #[.slice a n' c, .slice b m' d] w' fun e w'' => ∃ qo qc ro rc, e = .returned (.tuple #[.slice qo nQ qc, .slice ro nR rc, .bool true]) ∧ Fr w'.heap.size w'' qo qc (dig F) ∧ Fr w'.heap.size w'' ro rc (dig (rn q % q.den)) ∧ Below w'.heap.size w' w'') := fun w' a n' c b m' d h1 h2 => by
    rw [hnQ, hnR]
    exact rDivide_numD h1 h2 hden fl rfl
  have HNQ := Lib.hid hnQ
  have hgw : Hid (w.heap.size ≤ g) := by unfold Hid; omega
  clear hnD hnQ hnR hden fl b1 b2 s1 x1 x2 HR
  go_enter Tryz.func40, Tryz.ntmps40
  go_upto_region 1 with fail
  rw [← hg, ← hW1, ← hW2]
  clear hW1 hW2 hg
  refine wp_region_held_drew (S := fun w' => Below W2.heap.size W2 w') (by kernel_rfl) ((Below.refl _ _).drew) (fun hH => ?_)
  refine wpAnyH_take (i := 0) (v := (.agg #[.bool s, .slice ao n ca, .slice bo m cb])) rfl (by kernel_rfl) (by kernel_rfl) (by kernel_rfl) (fun _ _ _ h => h) (Or.inl ⟨by kernel_rfl, ?_⟩) hH ?_
  · intro w1 hB
    obtain ⟨k0, k1, k2⟩ := K1.out w1 hB
    go_simp
  change wpAnyH _ _ _ _ _ _ _ (Act.put _ (some 7) _) _
  try simp only [Act.put, List.setIfInBounds_toArray, List.set_cons_zero, List.set_cons_succ]
  refine wpAnyH_take (i := 3) (v := (.agg #[.bool s, .slice ao n ca, .slice bo m cb])) rfl (by kernel_rfl) (by kernel_rfl) (by kernel_rfl) (fun _ _ _ h => h) (Or.inl ⟨by kernel_rfl, ?_⟩) hH ?_
  · intro w1 hB
    obtain ⟨k0, k1, k2⟩ := K1.out w1 hB
    go_simp
  change wpAnyH _ _ _ _ _ _ _ (Act.put _ (some 10) _) _
  try simp only [Act.put, List.setIfInBounds_toArray, List.set_cons_zero, List.set_cons_succ]
  refine wpAnyH_ready (rs := [1]) (by kernel_rfl) (by simp) ?_
  refine AllReadyH.cons rfl (fun K hK => ?_) AllReadyH.nil
  go_simp
  refine (NC.out _ hH).mono ?_
  rintro e V1 ⟨s5, a5, n5, c5, o5, m5, d5, rfl, cq5, v1⟩
  try go_simp
  refine hK.out _ _ (keepB v1 hH (Nat.le_refl _)) (fun hH1 => ?_)
  clear hK K
  try simp only [Act.put, List.setIfInBounds_toArray, List.set_cons_zero, List.set_cons_succ]
  refine wpAnyH_take (i := 2) (v := (.slice a5 n5 c5)) rfl (by kernel_rfl) (by kernel_rfl) (by kernel_rfl) (fun _ _ _ h => h) (Or.inl ⟨by kernel_rfl, ?_⟩) hH1 ?_
  · intro w1 hB
    go_simp
    try simp only [field_nm, Result.andThen_ok]
    try go_simp
  change wpAnyH _ _ _ _ _ _ _ (Act.put _ (some 9) _) _
  try simp only [Act.put, List.setIfInBounds_toArray, List.set_cons_zero, List.set_cons_succ]
  refine wpAnyH_ready (rs := [4]) (by kernel_rfl) (by simp) ?_
  refine AllReadyH.cons rfl (fun K hK => ?_) AllReadyH.nil
  go_simp
  refine (DC.out _ hH1).mono ?_
  rintro e V4 ⟨a6, c6, rfl, f6, v4⟩
  try go_simp
  refine hK.out _ _ (keepB v4 hH1 (Nat.le_refl _)) (fun hH4 => ?_)
  clear hK K
  try simp only [Act.put, List.setIfInBounds_toArray, List.set_cons_zero, List.set_cons_succ]
  refine wpAnyH_ready (rs := [5]) (by kernel_rfl) (by simp) ?_
  refine AllReadyH.cons rfl (fun K hK => ?_) AllReadyH.nil
  go_simp
  refine (DV.out _ _ _ _ _ _ _ ((cq_upperD cq5).below v4) f6).mono ?_
  rintro e V5 ⟨qo, qc, ro, rc, rfl, fq5, _, v5⟩
  try go_simp
  refine hK.out _ _ (keepB v5 hH4 (Nat.le_refl _)) (fun hH5 => ?_)
  clear hK K
  try simp only [Act.put, List.setIfInBounds_toArray, List.set_cons_zero, List.set_cons_succ]
  refine wpAnyH_take (i := 6) (v := (.tuple #[.slice qo nQ qc, .slice ro nR rc, .bool true])) rfl (by kernel_rfl) (by kernel_rfl) (by kernel_rfl) (fun _ _ _ h => h) (Or.inl ⟨by kernel_rfl, ?_⟩) hH5 ?_
  · intro w1 hB
    go_simp
  change wpAnyH _ _ _ _ _ _ _ (Act.put _ (some 6) _) _
  try simp only [Act.put, List.setIfInBounds_toArray, List.set_cons_zero, List.set_cons_succ]
  refine wpAnyH_take (i := 7) (v := (.slice qo nQ qc)) rfl (by kernel_rfl) (by kernel_rfl) (by kernel_rfl) (fun _ _ _ h => h) (Or.inl ⟨by kernel_rfl, ?_⟩) hH5 ?_
  · intro w1 hB
    go_simp
  change wpAnyH _ _ _ _ _ _ _ (Act.put _ (some 13) _) _
  try simp only [Act.put, List.setIfInBounds_toArray, List.set_cons_zero, List.set_cons_succ]
  refine wpAnyH_take (i := 10) (v := (.slice qo nQ qc)) rfl (by kernel_rfl) (by kernel_rfl) (by kernel_rfl) (fun _ _ _ h => h) (Or.inl ⟨by kernel_rfl, ?_⟩) hH5 ?_
  · intro w1 hB
    go_simp
  change wpAnyH _ _ _ _ _ _ _ (Act.put _ (some 3) _) _
  try simp only [Act.put, List.setIfInBounds_toArray, List.set_cons_zero, List.set_cons_succ]
  refine wpAnyH_take (i := 8) (v := (.slice ro nR rc)) rfl (by kernel_rfl) (by kernel_rfl) (by kernel_rfl) (fun _ _ _ h => h) (Or.inl ⟨by kernel_rfl, ?_⟩) hH5 ?_
  · intro w1 hB
    go_simp
  change wpAnyH _ _ _ _ _ _ _ (Act.put _ (some 14) _) _
  try simp only [Act.put, List.setIfInBounds_toArray, List.set_cons_zero, List.set_cons_succ]
  refine wpAnyH_take (i := 11) (v := (.slice ro nR rc)) rfl (by kernel_rfl) (by kernel_rfl) (by kernel_rfl) (fun _ _ _ h => h) (Or.inl ⟨by kernel_rfl, ?_⟩) hH5 ?_
  · intro w1 hB
    go_simp
  change wpAnyH _ _ _ _ _ _ _ (Act.put _ (some 4) _) _
  try simp only [Act.put, List.setIfInBounds_toArray, List.set_cons_zero, List.set_cons_succ]
  refine wpAnyH_take (i := 9) (v := (.bool true)) rfl (by kernel_rfl) (by kernel_rfl) (by kernel_rfl) (fun _ _ _ h => h) (Or.inl ⟨by kernel_rfl, ?_⟩) hH5 ?_
  · intro w1 hB
    go_simp
  change wpAnyH _ _ _ _ _ _ _ (Act.put _ (some 15) _) _
  try simp only [Act.put, List.setIfInBounds_toArray, List.set_cons_zero, List.set_cons_succ]
  refine wpAnyH_take (i := 12) (v := (.bool true)) rfl (by kernel_rfl) (by kernel_rfl) (by kernel_rfl) (fun _ _ _ h => h) (Or.inl ⟨by kernel_rfl, ?_⟩) hH5 ?_
  · intro w1 hB
    go_simp
  change wpAnyH _ _ _ _ _ _ _ (Act.put _ (some 5) _) _
  try simp only [Act.put, List.setIfInBounds_toArray, List.set_cons_zero, List.set_cons_succ]
  refine wpAnyH_done (by kernel_rfl) ?_ _
  have BV : Below W2.heap.size W2 V5 := hH5
  have C5 : Hid (CQ W2.heap.size V5 false qo nQ qc none 0 0 (rq false F 1) 2) := by
    have hs1 : W2.heap.size ≤ V4.heap.size := (hH4 : Below W2.heap.size W2 V4).size
    have h5 := cq_of (B := W2.heap.size) (w := V5) (s := false) (N := F) (D := 1) (k := 2) (n := nQ) (m := 0) (ao := qo) (ca := qc) (bo := none) (cb := 0) (by omega) (by rw [Nat.gcd_one_right, Nat.div_one]; exact HNQ.out) (by rw [Nat.gcd_one_right, Nat.div_one]; exact fq5.mono hs1) (by rw [Nat.gcd_one_right, Nat.div_one]; rfl) (by rw [Nat.gcd_one_right, Nat.div_one]; exact Fr.nil _ _) SF.out (sm2 (by omega))
    unfold Hid
    simpa using h5
  have HBV := Lib.hid (HB2.out.trans (BV.mono HB2.out.size))
  have x5 := carry X2.out BV
  obtain ⟨p0, p1, p2, z0, z1, z2⟩ := at_block x5
  clear BV x5 fq5 cq5 f6 K1 NC DC DV X2 HB2
  go_wp2_with fail
  refine bodyPost_ret (v := .agg #[.bool false, .slice qo nQ qc, .slice none 0 0]) (by simp [results, Tryz.results40, go_sem, p0, p1, p2]) rfl ?_
  exact MakesQ.lift C5.out rfl (by rw [S2.out]; omega) hgw.out HBV.out _ _ _
end Go.Proofs.YtmhjimcdiglpcaaGreat.Dr
/- Numbers over one denominator, read from memory; a number put into an ascending list. -/
namespace Go.Proofs.YtmhjimcdiglpcaaGreat.Dr
open Go.RowKit Go.Sort C6

/-- the rows rs hold the numbers us over A -/
def Lq (w : World) (A : Int) (us : List Int) (rs : List RV) : Prop := Inc w us.length rs (fun j => some (fq (us.getD j 0) A))
theorem Lq.len {w : World} {A : Int} {us : List Int} {rs : List RV} (h : Lq w A us rs) : rs.length = us.length := h.1
theorem Lq.cq {w : World} {A : Int} {us : List Int} {rs : List RV} (h : Lq w A us rs) {j : Nat} (hj : j < us.length) : CQ 0 w (rs.getD j RV.nil).s (rs.getD j RV.nil).ao (rs.getD j RV.nil).n (rs.getD j RV.nil).ca (rs.getD j RV.nil).bo (rs.getD j RV.nil).m (rs.getD j RV.nil).cb (fq (us.getD j 0) A) 2 := h.2 j hj _ rfl
theorem Lq.mk' {w : World} {A : Int} {us : List Int} {rs : List RV} (hl : rs.length = us.length) (h : ∀ j, j < us.length → CQ 0 w (rs.getD j RV.nil).s (rs.getD j RV.nil).ao (rs.getD j RV.nil).n (rs.getD j RV.nil).ca (rs.getD j RV.nil).bo (rs.getD j RV.nil).m (rs.getD j RV.nil).cb (fq (us.getD j 0) A) 2) : Lq w A us rs :=
  ⟨hl, fun j hj q hq => by cases hq; exact h j hj⟩
theorem Lq.nil (w : World) (A : Int) : Lq w A [] [] := Lq.mk' rfl (fun j hj => by simp at hj)
theorem Lq.one {w : World} {A v : Int} {r : RV} (h : CQ 0 w r.s r.ao r.n r.ca r.bo r.m r.cb (fq v A) 2) : Lq w A [v] [r] := Lq.mk' rfl (fun j hj => by
  obtain rfl : j = 0 := by simpa using hj
  exact h)
theorem getD_app {α : Type} (l m : List α) (d : α) (j : Nat) : (l ++ m).getD j d = if j < l.length then l.getD j d else m.getD (j - l.length) d := by
  unfold List.getD
  rw [List.getElem?_append]
  split <;> rfl
theorem getD_tk {α : Type} (l : List α) (d : α) {j k : Nat} (h : j < k) : (l.take k).getD j d = l.getD j d := by
  unfold List.getD
  rw [List.getElem?_take, if_pos h]
theorem getD_dr {α : Type} (l : List α) (d : α) (j k : Nat) : (l.drop k).getD j d = l.getD (k + j) d := by
  unfold List.getD
  rw [List.getElem?_drop]
theorem Lq.app {w : World} {A : Int} {us vs : List Int} {rs ps : List RV} (h : Lq w A us rs) (g : Lq w A vs ps) : Lq w A (us ++ vs) (rs ++ ps) := Lq.mk' (by rw [List.length_append, List.length_append, h.len, g.len]) (fun j hj => by
  rw [getD_app, getD_app, h.len]
  by_cases e : j < us.length
  · rw [if_pos e, if_pos e]; exact h.cq e
  · rw [if_neg e, if_neg e]
    rw [List.length_append] at hj
    exact g.cq (by omega))
theorem Lq.take {w : World} {A : Int} {us : List Int} {rs : List RV} (h : Lq w A us rs) (k : Nat) : Lq w A (us.take k) (rs.take k) := Lq.mk' (by rw [List.length_take, List.length_take, h.len]) (fun j hj => by
  rw [List.length_take] at hj
  rw [getD_tk _ _ (by omega), getD_tk _ _ (by omega)]
  exact h.cq (by omega))
theorem Lq.drop {w : World} {A : Int} {us : List Int} {rs : List RV} (h : Lq w A us rs) (k : Nat) : Lq w A (us.drop k) (rs.drop k) := Lq.mk' (by rw [List.length_drop, List.length_drop, h.len]) (fun j hj => by
  rw [List.length_drop] at hj
  rw [getD_dr, getD_dr]
  exact h.cq (by omega))
theorem Lq.below {w w' : World} {A : Int} {us : List Int} {rs : List RV} (h : Lq w A us rs) (b : Below w.heap.size w w') : Lq w' A us rs := Inc.below h b
theorem Lq.keep {w w' : World} {A : Int} {us : List Int} {rs : List RV} {base l : Nat} {v : Value} {vs : List Value} (h : Lq w A us rs) (ho : w.ownsRow base 35 3 v l vs) (g : w.grownBy w' v.ownBlock) : Lq w' A us rs := Inc.keep h ho g
theorem rvs_app (rs ps : List RV) : rvs (rs ++ ps) = rvs rs ++ rvs ps := by simp [rvs]
theorem rvs_tk (rs : List RV) (k : Nat) : rvs (rs.take k) = (rvs rs).take (k * 3) := by
  induction rs generalizing k with
  | nil => simp [rvs]
  | cons r rs ih =>
    cases k with
    | zero => simp [rvs]
    | succ k =>
      rw [List.take_succ_cons, show rvs (r :: rs.take k) = [.bool r.s, .slice r.ao r.n r.ca, .slice r.bo r.m r.cb] ++ rvs (rs.take k) by simp [rvs, RV.vals], show rvs (r :: rs) = [.bool r.s, .slice r.ao r.n r.ca, .slice r.bo r.m r.cb] ++ rvs rs by simp [rvs, RV.vals], ih, show (k + 1) * 3 = k * 3 + 3 by omega]
      rfl
theorem rvs_dr (rs : List RV) (k : Nat) : rvs (rs.drop k) = (rvs rs).drop (k * 3) := by
  induction rs generalizing k with
  | nil => simp [rvs]
  | cons r rs ih =>
    cases k with
    | zero => simp
    | succ k =>
      rw [List.drop_succ_cons, show rvs (r :: rs) = [.bool r.s, .slice r.ao r.n r.ca, .slice r.bo r.m r.cb] ++ rvs rs by simp [rvs, RV.vals], ih, show (k + 1) * 3 = k * 3 + 3 by omega]
      rfl
theorem rvs_one (rs : List RV) : ∀ u ∈ rvs rs, u.oneCell' = true := by
  intro u hu
  unfold rvs at hu
  obtain ⟨r, _, hr⟩ := List.mem_flatMap.1 hu
  simp [RV.vals] at hr
  rcases hr with rfl | rfl | rfl <;> rfl
/-- the cells of a list of numbers -/
theorem rdr_cells {w : World} {b o c : Nat} {rs : List RV} (h : RdR w (some ⟨b, o, none⟩) c rs) : ∀ j u, (rvs rs)[j]? = some u → w.cell? ⟨b, o + j, none⟩ = some u := by
  intro j u hj
  have hlt := (List.getElem?_eq_some_iff.1 hj).1
  rw [rvs_length] at hlt
  obtain ⟨b', o', e', hc⟩ := h.at (by omega)
  cases e'
  obtain ⟨k0, k1, k2⟩ := hc (j / 3) (by omega)
  obtain ⟨v0, v1, v2⟩ := rvs_at rs (j / 3) (by omega)
  have h3 : j % 3 = 0 ∨ j % 3 = 1 ∨ j % 3 = 2 := by omega
  rcases h3 with h3 | h3 | h3
  · have e : j = j / 3 * 3 := by omega
    rw [e] at hj ⊢
    rw [v0] at hj
    rw [← Option.some.inj hj]
    exact k0
  · have e : j = j / 3 * 3 + 1 := by omega
    rw [e] at hj ⊢
    rw [v1] at hj
    rw [← Option.some.inj hj, ← Nat.add_assoc]
    exact k1
  · have e : j = j / 3 * 3 + 2 := by omega
    rw [e] at hj ⊢
    rw [v2] at hj
    rw [← Option.some.inj hj, ← Nat.add_assoc]
    exact k2
theorem strict_ext {l m : List Int} (hl : l.Pairwise (· < ·)) (hm : m.Pairwise (· < ·)) (h : ∀ v, v ∈ l ↔ v ∈ m) : l = m := by
  have nl : l.Nodup := hl.imp (fun h => by omega)
  have nm : m.Nodup := hm.imp (fun h => by omega)
  exact List.Perm.eq_of_pairwise (le := fun (a b : Int) => a < b) (fun a b _ _ h1 h2 => by omega) hl hm ((List.perm_ext_iff_of_nodup nl nm).2 h)
theorem ins_up {vs : List Int} (h : vs.Pairwise (· < ·)) {k : Nat} {v : Int} (h1 : ∀ x ∈ vs.take k, x < v) (h2 : ∀ x ∈ vs.drop k, v < x) : (vs.take k ++ v :: vs.drop k).Pairwise (· < ·) := by
  rw [List.pairwise_append]
  refine ⟨h.sublist (List.take_sublist k vs), List.pairwise_cons.2 ⟨h2, h.sublist (List.drop_sublist k vs)⟩, fun a ha b hb => ?_⟩
  have := h1 a ha
  rcases List.mem_cons.1 hb with rfl | hb
  · exact this
  · have := h2 b hb
    omega
theorem ins_mem {vs : List Int} (k : Nat) (v y : Int) : y ∈ vs.take k ++ v :: vs.drop k ↔ y = v ∨ y ∈ vs := by
  have h : y ∈ vs ↔ y ∈ vs.take k ∨ y ∈ vs.drop k := by
    rw [← List.mem_append, List.take_append_drop]
  rw [List.mem_append, List.mem_cons, h]
  constructor
  · rintro (h | h | h)
    · exact .inr (.inl h)
    · exact .inl h
    · exact .inr (.inr h)
  · rintro (h | h | h)
    · exact .inr (.inl h)
    · exact .inl h
    · exact .inr (.inr h)
theorem cq_fq {a b A : Int} (hA : 1 ≤ A) (ha : 0 ≤ a) (hb : 0 ≤ b) : (cq (fq a A) (fq b A) < 0 ↔ a < b) ∧ (cq (fq a A) (fq b A) = 0 ↔ a = b) := by
  have e : ∀ z : Int, 0 ≤ z → fq z A = mkRat z A.natAbs := fun z hz => by
    unfold fq rq
    rw [decide_eq_false (show ¬ z < 0 by omega), decide_eq_false (show ¬ A < 0 by omega)]
    congr 1
    show (if _ then _ else _) = _
    rw [if_neg (by decide)]
    omega
  rw [e a ha, e b hb, cq_mk (by omega) (by omega)]
  have h1 : a * (A.natAbs : Int) - b * (A.natAbs : Int) = (a - b) * A := by rw [← Int.sub_mul]; congr 1; omega
  rw [h1]
  have h2 : (a - b) * A < 0 ↔ a < b := by
    constructor
    · intro h
      by_cases e : a < b
      · exact e
      · have := Int.mul_nonneg (show 0 ≤ a - b by omega) (show 0 ≤ A by omega)
        omega
    · intro h
      have := Int.mul_pos (show 0 < b - a by omega) (show 0 < A by omega)
      have e : (a - b) * A = -((b - a) * A) := by rw [← Int.neg_mul]; congr 1; omega
      omega
  have h3 : (a - b) * A = 0 ↔ a = b := by
    constructor
    · intro h
      rcases Int.mul_eq_zero.1 h with h | h <;> omega
    · rintro rfl; simp
  by_cases c1 : (a - b) * A < 0
  · rw [if_pos c1]
    have := h2.1 c1
    exact ⟨⟨fun _ => this, fun _ => by omega⟩, ⟨fun h => by omega, fun h => by omega⟩⟩
  · rw [if_neg c1]
    have c2 : ¬ a < b := fun h => c1 (h2.2 h)
    by_cases c3 : (a - b) * A = 0
    · rw [if_pos c3]
      have := h3.1 c3
      exact ⟨⟨fun h => by omega, fun h => by omega⟩, ⟨fun _ => this, fun _ => rfl⟩⟩
    · rw [if_neg c3]
      have c4 : ¬ a = b := fun h => c3 (h3.2 h)
      exact ⟨⟨fun h => by omega, fun h => by omega⟩, ⟨fun h => by omega, fun h => absurd h c4⟩⟩
end Go.Proofs.YtmhjimcdiglpcaaGreat.Dr
/- The reference's put: a number into an ascending list. -/
namespace Go.Proofs.YtmhjimcdiglpcaaGreat.Dr
open Go.RowKit Go.Sort C6

/-- what put gives -/
def PutP (vs : List Int) (A v : Int) (n : Nat) (w w' : World) (a' : Option Addr) (n' c' : Nat) : Prop := ∃ us : List Int, n' = us.length ∧ us.Pairwise (· < ·) ∧ (∀ y, y ∈ us ↔ y = v ∨ y ∈ vs) ∧ us.length ≤ n + 1 ∧ RdN w' a' c' n' (fun j => fq (us.getD j 0) A) ∧ Below w.heap.size w w'

set_option maxHeartbeats 32000000 in
set_option maxRecDepth 100000 in
theorem put_v (vs : List Int) (A v : Int) (a : Option Addr) (n c : Nat) (s : Bool) (ao bo : Option Addr) (n0 ca0 m0 cb : Nat) (w : World) (hA : 1 ≤ A) (hvs : vs.Pairwise (· < ·)) (hn : n = vs.length) (hn1 : 1 ≤ n) (hn20 : n ≤ 40) (hl : RdN w a c n (fun j => fq (vs.getD j 0) A)) (hbd : ∀ x ∈ vs, 0 ≤ x) (hv : 0 ≤ v) (hx : CQ 0 w s ao n0 ca0 bo m0 cb (fq v A) 2) :
    Calls Tryz.prog 39 #[.slice a n c, .agg #[.bool s, .slice ao n0 ca0, .slice bo m0 cb]] w fun e w' => ∃ a' n' c', e = .returned (.slice a' n' c') ∧ PutP vs A v n w w' a' n' c' := by
  obtain ⟨r0, ri, rz0, rz1, rz2⟩ := info_partsr infoRatio
  have HRI : Hid (Tryz.prog.info? 35 = some r0 ∧ r0.zero = some (.agg #[.bool false, .slice none 0 0, .slice none 0 0]) ∧ r0.size = 3 ∧ r0.bytes = 56) := ⟨ri, rz0, rz1, rz2⟩
  obtain ⟨rs, hrl, hrd, hinc⟩ := hl
  obtain ⟨b, o, rfl, hat⟩ := hrd.at (by omega)
  have hlq : Lq w A vs rs := by unfold Lq; rw [← hn]; exact hinc
  have hnc : n ≤ c := by have := hrd.1; omega
  have hnc2 := hrd.2.1
  obtain ⟨W1, hW1⟩ : ∃ W, W = w.alloc (.cells #[.bool s, .slice ao n0 ca0, .slice bo m0 cb] 35) := ⟨_, rfl⟩
  obtain ⟨g1, hg1⟩ : ∃ g, g = w.heap.size := ⟨_, rfl⟩
  have b1 : Below w.heap.size w W1 := by rw [hW1]; exact below_new _ _
  have x1 : W1.heap[g1]? = some (.cells #[.bool s, .slice ao n0 ca0, .slice bo m0 cb] 35 (0, 0)) := by rw [hW1, hg1]; exact heap_alloc_new _ _
  have HBW := Lib.hid b1
  have KX1 : Hid (∀ w', Below W1.heap.size W1 w' → w'.cell? ⟨g1, 0, none⟩ = some (.bool s) ∧ w'.cell? ⟨g1, 1, none⟩ = some (.slice ao n0 ca0) ∧ w'.cell? ⟨g1, 2, none⟩ = some (.slice bo m0 cb)) := fun w' hb => by
    obtain ⟨k0, k1, k2, _⟩ := at_block (carry x1 hb)
    exact ⟨k0, k1, k2⟩
  have QX : Hid (∀ w', Below W1.heap.size W1 w' → CQ 0 w' s ao n0 ca0 bo m0 cb (fq v A) 2) := fun w' hb => (hx.below HBW.out).below hb
  have HL : Hid (∀ w', Below W1.heap.size W1 w' → Lq w' A vs rs) := fun w' hb => (hlq.below HBW.out).below hb
  have HC : Hid (∀ w', Below W1.heap.size W1 w' → ∀ j u, (rvs rs)[j]? = some u → w'.cell? ⟨b, o + j, none⟩ = some u) := fun w' hb => rdr_cells ((hrd.below HBW.out).below hb)
  have HAT : Hid (∀ w', Below W1.heap.size W1 w' → ∀ j, j < n → At3 w' b (o + j * 3) (rs.getD j RV.nil)) := fun w' hb j hj => ((hat j (by omega)).below HBW.out).below hb
  have RAT : Hid (∀ w', Below W1.heap.size W1 w' → RdR w' (some ⟨b, o, none⟩) c rs) := fun w' hb => (hrd.below HBW.out).below hb
  have HRL : Hid (rs.length = n) := hrl
  have HVN : Hid (n = vs.length) := hn
  have HUP : Hid (vs.Pairwise (· < ·)) := hvs
  have HBD := Lib.hid hbd
  have CMJ : Hid (∀ w', Below W1.heap.size W1 w' → ∀ j, j < n → Calls Tryz.prog 11 #[.agg #[.bool (rs.getD j RV.nil).s, .slice (rs.getD j RV.nil).ao (rs.getD j RV.nil).n (rs.getD j RV.nil).ca, .slice (rs.getD j RV.nil).bo (rs.getD j RV.nil).m (rs.getD j RV.nil).cb], .agg #[.bool s, .slice ao n0 ca0, .slice bo m0 cb]] w' fun e w2 => e = .returned (.int .i64 (cq (fq (vs.getD j 0) A) (fq v A))) ∧ Below w'.heap.size w' w2) := fun w' hb j hj =>
    rCompare_q _ _ _ _ _ _ _ _ _ _ _ _ _ _ 2 _ _ w' ((HL.out w' hb).cq (by rw [← HVN.out]; exact hj)).rq (QX.out w' hb).rq (by omega)
  have CF : Hid (∀ j, j < n → (cq (fq (vs.getD j 0) A) (fq v A) < 0 ↔ vs.getD j 0 < v) ∧ (cq (fq (vs.getD j 0) A) (fq v A) = 0 ↔ vs.getD j 0 = v)) := fun j hj => cq_fq hA (by
    have hjl : j < vs.length := by rw [← HVN.out]; exact hj
    have := hbd _ (List.getElem_mem hjl)
    simpa [List.getD, hjl] using this) hv
  have HST : Hid (Below W1.heap.size W1 W1) := Below.refl _ _
  clear ri rz0 rz1 rz2 hrl hrd hinc hat hlq hn hvs hbd hx b1 x1
  go_enter Tryz.func39, Tryz.ntmps39
  go_wp2_with fail
  rw [← hW1]
  try rw [← hg1]
  clear hW1 hg1
  go_loopw [5] (fun s5 wr => ∃ i : Nat, i ≤ n ∧ s5 = .int .i64 (i : Int) ∧ Hid (∀ j, j < i → vs.getD j 0 < v) ∧ Hid (Below W1.heap.size W1 wr)) (fun s5 _ => n - (intOf s5).toNat)
  case atStart => exact ⟨0, by omega, rfl, fun j hj => by omega, HST⟩
  case round =>
    obtain ⟨i, hin, rfl, hlow, hbl⟩ := hrel
    have KX : Hid (∀ w', Below wr.heap.size wr w' → w'.cell? ⟨g1, 0, none⟩ = some (.bool s) ∧ w'.cell? ⟨g1, 1, none⟩ = some (.slice ao n0 ca0) ∧ w'.cell? ⟨g1, 2, none⟩ = some (.slice bo m0 cb)) := fun w' hb => KX1.out w' (hbl.out.trans (hb.mono hbl.out.size))
    have HLO : Hid (∀ x ∈ vs.take i, x < v) := fun x hx => by
      obtain ⟨j, hj, rfl⟩ := List.mem_iff_getElem.1 hx
      rw [List.length_take] at hj
      have := hlow.out j (by omega)
      rw [List.getElem_take]
      simpa [List.getD, show j < vs.length by omega] using this
    by_cases hlt : i < n
    · have hlt2 : (i : Int) < (n : Int) := by omega
      obtain ⟨r, hr⟩ : ∃ r, r = rs.getD i RV.nil := ⟨_, rfl⟩
      obtain ⟨C, hC⟩ : ∃ C, C = cq (fq (vs.getD i 0) A) (fq v A) := ⟨_, rfl⟩
      have hcf := CF.out i hlt
      rw [← hC] at hcf
      have HCF := Lib.hid hcf
      have KI : Hid (∀ w', Below wr.heap.size wr w' → At3 w' b (o + i * 3) r) := fun w' hb => by rw [hr]; exact HAT.out w' (hbl.out.trans (hb.mono hbl.out.size)) i hlt
      have CM : Hid (∀ w', Below wr.heap.size wr w' → Calls Tryz.prog 11 #[.agg #[.bool r.s, .slice r.ao r.n r.ca, .slice r.bo r.m r.cb], .agg #[.bool s, .slice ao n0 ca0, .slice bo m0 cb]] w' fun e w2 => e = .returned (.int .i64 C) ∧ Below w'.heap.size w' w2) := fun w' hb => by rw [hr, hC]; exact CMJ.out w' (hbl.out.trans (hb.mono hbl.out.size)) i hlt
      have hic : i < c := by omega
      clear hr hC hcf
      by_cases hC0 : C < 0
      · have hd : decide (C < 0) = true := decide_eq_true hC0
        have hlow1 : Hid (∀ j, j < i + 1 → vs.getD j 0 < v) := fun j hj => by
          by_cases e : j = i
          · rw [e]; exact HCF.out.1.1 hC0
          · exact hlow.out j (by omega)
        go_upto_region 2 with fail
        refine wp_region_held_drew (S := fun w' => Below wr.heap.size wr w') (by kernel_rfl) ((Below.refl _ _).drew) (fun hH => ?_)
        refine wpAnyH_take (i := 0) (v := (.int .i64 (i : Int))) rfl (by kernel_rfl) (by kernel_rfl) (by kernel_rfl) (fun _ _ _ h => h) (Or.inl ⟨by kernel_rfl, ?_⟩) hH ?_
        · intro w1 hB
          go_simp
        change wpAnyH _ _ _ _ _ _ _ (Act.put _ (some 7) _) _
        try simp only [Act.put, List.setIfInBounds_toArray, List.set_cons_zero, List.set_cons_succ]
        refine wpAnyH_take (i := 1) (v := (.slice (some ⟨b, o, none⟩) n c)) rfl (by kernel_rfl) (by kernel_rfl) (by kernel_rfl) (fun _ _ _ h => h) (Or.inl ⟨by kernel_rfl, ?_⟩) hH ?_
        · intro w1 hB
          go_simp
        change wpAnyH _ _ _ _ _ _ _ (Act.put _ (some 8) _) _
        try simp only [Act.put, List.setIfInBounds_toArray, List.set_cons_zero, List.set_cons_succ]
        refine wpAnyH_take (i := 2) (v := (.int .i64 (n : Int))) rfl (by kernel_rfl) (by kernel_rfl) (by kernel_rfl) (fun _ _ _ h => h) (Or.inl ⟨by kernel_rfl, ?_⟩) hH ?_
        · intro w1 hB
          go_simp
        change wpAnyH _ _ _ _ _ _ _ (Act.put _ (some 9) _) _
        try simp only [Act.put, List.setIfInBounds_toArray, List.set_cons_zero, List.set_cons_succ]
        refine wpAnyH_take (i := 3) (v := (.bool true)) rfl (by kernel_rfl) (by kernel_rfl) (by kernel_rfl) (fun _ _ _ h => h) (Or.inl ⟨by kernel_rfl, ?_⟩) hH ?_
        · intro w1 hB
          go_simp
        change wpAnyH _ _ _ _ _ _ _ (Act.put _ (some 10) _) _
        try simp only [Act.put, List.setIfInBounds_toArray, List.set_cons_zero, List.set_cons_succ]
        refine wpAnyH_take (i := 4) (v := (.bool true)) rfl (by kernel_rfl) (by kernel_rfl) (by kernel_rfl) (fun _ _ _ h => h) (Or.inl ⟨by kernel_rfl, ?_⟩) hH ?_
        · intro w1 hB
          go_simp
        change wpAnyH _ _ _ _ _ _ _ (Act.put _ (some 11) _) _
        try simp only [Act.put, List.setIfInBounds_toArray, List.set_cons_zero, List.set_cons_succ]
        refine wpAnyH_take (i := 5) (v := (.slice (some ⟨b, o, none⟩) n c)) rfl (by kernel_rfl) (by kernel_rfl) (by kernel_rfl) (fun _ _ _ h => h) (Or.inl ⟨by kernel_rfl, ?_⟩) hH ?_
        · intro w1 hB
          go_simp
        change wpAnyH _ _ _ _ _ _ _ (Act.put _ (some 12) _) _
        try simp only [Act.put, List.setIfInBounds_toArray, List.set_cons_zero, List.set_cons_succ]
        refine wpAnyH_take (i := 6) (v := (.int .i64 (i : Int))) rfl (by kernel_rfl) (by kernel_rfl) (by kernel_rfl) (fun _ _ _ h => h) (Or.inl ⟨by kernel_rfl, ?_⟩) hH ?_
        · intro w1 hB
          go_simp
        change wpAnyH _ _ _ _ _ _ _ (Act.put _ (some 13) _) _
        try simp only [Act.put, List.setIfInBounds_toArray, List.set_cons_zero, List.set_cons_succ]
        refine wpAnyH_take (i := 7) (v := (.pointer (some ⟨b, o + i * 3, none⟩))) rfl (by kernel_rfl) (by kernel_rfl) (by kernel_rfl) (fun _ _ _ h => h) (Or.inl ⟨by kernel_rfl, ?_⟩) hH ?_
        · intro w1 hB
          go_simp
        change wpAnyH _ _ _ _ _ _ _ (Act.put _ (some 14) _) _
        try simp only [Act.put, List.setIfInBounds_toArray, List.set_cons_zero, List.set_cons_succ]
        refine wpAnyH_take (i := 8) (v := (.agg #[.bool r.s, .slice r.ao r.n r.ca, .slice r.bo r.m r.cb])) rfl (by kernel_rfl) (by kernel_rfl) (by kernel_rfl) (fun _ _ _ h => h) (Or.inl ⟨by kernel_rfl, ?_⟩) hH ?_
        · intro w1 hB
          obtain ⟨j0, j1, j2⟩ := KX.out w1 hB
          try obtain ⟨l0, l1, l2⟩ := KI.out w1 hB
          go_simp
        change wpAnyH _ _ _ _ _ _ _ (Act.put _ (some 15) _) _
        try simp only [Act.put, List.setIfInBounds_toArray, List.set_cons_zero, List.set_cons_succ]
        refine wpAnyH_take (i := 9) (v := (.agg #[.bool s, .slice ao n0 ca0, .slice bo m0 cb])) rfl (by kernel_rfl) (by kernel_rfl) (by kernel_rfl) (fun _ _ _ h => h) (Or.inl ⟨by kernel_rfl, ?_⟩) hH ?_
        · intro w1 hB
          obtain ⟨j0, j1, j2⟩ := KX.out w1 hB
          try obtain ⟨l0, l1, l2⟩ := KI.out w1 hB
          go_simp
        change wpAnyH _ _ _ _ _ _ _ (Act.put _ (some 16) _) _
        try simp only [Act.put, List.setIfInBounds_toArray, List.set_cons_zero, List.set_cons_succ]
        refine wpAnyH_ready (rs := [10]) (by kernel_rfl) (by simp) ?_
        refine AllReadyH.cons rfl (fun K hK => ?_) AllReadyH.nil
        go_simp
        refine (CM.out _ hH).mono ?_
        rintro e V10 ⟨rfl, v10⟩
        try go_simp
        refine hK.out _ _ (keepB v10 hH (Nat.le_refl _)) (fun hH10 => ?_)
        clear hK K
        try simp only [Act.put, List.setIfInBounds_toArray, List.set_cons_zero, List.set_cons_succ]
        refine wpAnyH_take (i := 11) (v := (.bool true)) rfl (by kernel_rfl) (by kernel_rfl) (by kernel_rfl) (fun _ _ _ h => h) (Or.inl ⟨by kernel_rfl, ?_⟩) hH10 ?_
        · intro w1 hB
          go_simp
        change wpAnyH _ _ _ _ _ _ _ (Act.put _ (some 18) _) _
        try simp only [Act.put, List.setIfInBounds_toArray, List.set_cons_zero, List.set_cons_succ]
        refine wpAnyH_take (i := 12) (v := (.bool true)) rfl (by kernel_rfl) (by kernel_rfl) (by kernel_rfl) (fun _ _ _ h => h) (Or.inl ⟨by kernel_rfl, ?_⟩) hH10 ?_
        · intro w1 hB
          go_simp
        change wpAnyH _ _ _ _ _ _ _ (Act.put _ (some 19) _) _
        try simp only [Act.put, List.setIfInBounds_toArray, List.set_cons_zero, List.set_cons_succ]
        refine wpAnyH_done (by kernel_rfl) ?_ _
        have BV : Below wr.heap.size wr _ := hH10
        have HBV := Lib.hid (hbl.out.trans (BV.mono hbl.out.size))
        clear BV hbl KX KI CM hlow HLO
        go_wp2_with fail
        go_roundw
        case rel => exact ⟨i + 1, by omega, by go_num, hlow1, HBV⟩
        case measure => simp [intOf]; omega
      · have hd : decide (C < 0) = false := decide_eq_false hC0
        go_upto_region 2 with fail
        refine wp_region_held_drew (S := fun w' => Below wr.heap.size wr w') (by kernel_rfl) ((Below.refl _ _).drew) (fun hH => ?_)
        refine wpAnyH_take (i := 0) (v := (.int .i64 (i : Int))) rfl (by kernel_rfl) (by kernel_rfl) (by kernel_rfl) (fun _ _ _ h => h) (Or.inl ⟨by kernel_rfl, ?_⟩) hH ?_
        · intro w1 hB
          go_simp
        change wpAnyH _ _ _ _ _ _ _ (Act.put _ (some 7) _) _
        try simp only [Act.put, List.setIfInBounds_toArray, List.set_cons_zero, List.set_cons_succ]
        refine wpAnyH_take (i := 1) (v := (.slice (some ⟨b, o, none⟩) n c)) rfl (by kernel_rfl) (by kernel_rfl) (by kernel_rfl) (fun _ _ _ h => h) (Or.inl ⟨by kernel_rfl, ?_⟩) hH ?_
        · intro w1 hB
          go_simp
        change wpAnyH _ _ _ _ _ _ _ (Act.put _ (some 8) _) _
        try simp only [Act.put, List.setIfInBounds_toArray, List.set_cons_zero, List.set_cons_succ]
        refine wpAnyH_take (i := 2) (v := (.int .i64 (n : Int))) rfl (by kernel_rfl) (by kernel_rfl) (by kernel_rfl) (fun _ _ _ h => h) (Or.inl ⟨by kernel_rfl, ?_⟩) hH ?_
        · intro w1 hB
          go_simp
        change wpAnyH _ _ _ _ _ _ _ (Act.put _ (some 9) _) _
        try simp only [Act.put, List.setIfInBounds_toArray, List.set_cons_zero, List.set_cons_succ]
        refine wpAnyH_take (i := 3) (v := (.bool true)) rfl (by kernel_rfl) (by kernel_rfl) (by kernel_rfl) (fun _ _ _ h => h) (Or.inl ⟨by kernel_rfl, ?_⟩) hH ?_
        · intro w1 hB
          go_simp
        change wpAnyH _ _ _ _ _ _ _ (Act.put _ (some 10) _) _
        try simp only [Act.put, List.setIfInBounds_toArray, List.set_cons_zero, List.set_cons_succ]
        refine wpAnyH_take (i := 4) (v := (.bool true)) rfl (by kernel_rfl) (by kernel_rfl) (by kernel_rfl) (fun _ _ _ h => h) (Or.inl ⟨by kernel_rfl, ?_⟩) hH ?_
        · intro w1 hB
          go_simp
        change wpAnyH _ _ _ _ _ _ _ (Act.put _ (some 11) _) _
        try simp only [Act.put, List.setIfInBounds_toArray, List.set_cons_zero, List.set_cons_succ]
        refine wpAnyH_take (i := 5) (v := (.slice (some ⟨b, o, none⟩) n c)) rfl (by kernel_rfl) (by kernel_rfl) (by kernel_rfl) (fun _ _ _ h => h) (Or.inl ⟨by kernel_rfl, ?_⟩) hH ?_
        · intro w1 hB
          go_simp
        change wpAnyH _ _ _ _ _ _ _ (Act.put _ (some 12) _) _
        try simp only [Act.put, List.setIfInBounds_toArray, List.set_cons_zero, List.set_cons_succ]
        refine wpAnyH_take (i := 6) (v := (.int .i64 (i : Int))) rfl (by kernel_rfl) (by kernel_rfl) (by kernel_rfl) (fun _ _ _ h => h) (Or.inl ⟨by kernel_rfl, ?_⟩) hH ?_
        · intro w1 hB
          go_simp
        change wpAnyH _ _ _ _ _ _ _ (Act.put _ (some 13) _) _
        try simp only [Act.put, List.setIfInBounds_toArray, List.set_cons_zero, List.set_cons_succ]
        refine wpAnyH_take (i := 7) (v := (.pointer (some ⟨b, o + i * 3, none⟩))) rfl (by kernel_rfl) (by kernel_rfl) (by kernel_rfl) (fun _ _ _ h => h) (Or.inl ⟨by kernel_rfl, ?_⟩) hH ?_
        · intro w1 hB
          go_simp
        change wpAnyH _ _ _ _ _ _ _ (Act.put _ (some 14) _) _
        try simp only [Act.put, List.setIfInBounds_toArray, List.set_cons_zero, List.set_cons_succ]
        refine wpAnyH_take (i := 8) (v := (.agg #[.bool r.s, .slice r.ao r.n r.ca, .slice r.bo r.m r.cb])) rfl (by kernel_rfl) (by kernel_rfl) (by kernel_rfl) (fun _ _ _ h => h) (Or.inl ⟨by kernel_rfl, ?_⟩) hH ?_
        · intro w1 hB
          obtain ⟨j0, j1, j2⟩ := KX.out w1 hB
          try obtain ⟨l0, l1, l2⟩ := KI.out w1 hB
          go_simp
        change wpAnyH _ _ _ _ _ _ _ (Act.put _ (some 15) _) _
        try simp only [Act.put, List.setIfInBounds_toArray, List.set_cons_zero, List.set_cons_succ]
        refine wpAnyH_take (i := 9) (v := (.agg #[.bool s, .slice ao n0 ca0, .slice bo m0 cb])) rfl (by kernel_rfl) (by kernel_rfl) (by kernel_rfl) (fun _ _ _ h => h) (Or.inl ⟨by kernel_rfl, ?_⟩) hH ?_
        · intro w1 hB
          obtain ⟨j0, j1, j2⟩ := KX.out w1 hB
          try obtain ⟨l0, l1, l2⟩ := KI.out w1 hB
          go_simp
        change wpAnyH _ _ _ _ _ _ _ (Act.put _ (some 16) _) _
        try simp only [Act.put, List.setIfInBounds_toArray, List.set_cons_zero, List.set_cons_succ]
        refine wpAnyH_ready (rs := [10]) (by kernel_rfl) (by simp) ?_
        refine AllReadyH.cons rfl (fun K hK => ?_) AllReadyH.nil
        go_simp
        refine (CM.out _ hH).mono ?_
        rintro e V10 ⟨rfl, v10⟩
        try go_simp
        refine hK.out _ _ (keepB v10 hH (Nat.le_refl _)) (fun hH10 => ?_)
        clear hK K
        try simp only [Act.put, List.setIfInBounds_toArray, List.set_cons_zero, List.set_cons_succ]
        refine wpAnyH_take (i := 11) (v := (.bool false)) rfl (by kernel_rfl) (by kernel_rfl) (by kernel_rfl) (fun _ _ _ h => h) (Or.inl ⟨by kernel_rfl, ?_⟩) hH10 ?_
        · intro w1 hB
          go_simp
        change wpAnyH _ _ _ _ _ _ _ (Act.put _ (some 18) _) _
        try simp only [Act.put, List.setIfInBounds_toArray, List.set_cons_zero, List.set_cons_succ]
        refine wpAnyH_take (i := 12) (v := (.bool false)) rfl (by kernel_rfl) (by kernel_rfl) (by kernel_rfl) (fun _ _ _ h => h) (Or.inl ⟨by kernel_rfl, ?_⟩) hH10 ?_
        · intro w1 hB
          go_simp
        change wpAnyH _ _ _ _ _ _ _ (Act.put _ (some 19) _) _
        try simp only [Act.put, List.setIfInBounds_toArray, List.set_cons_zero, List.set_cons_succ]
        refine wpAnyH_done (by kernel_rfl) ?_ _
        have BV : Below wr.heap.size wr V10 := hH10
        obtain ⟨X1, hX1⟩ : ∃ X, X = V10 := ⟨_, rfl⟩
        have HB1 : Hid (Below W1.heap.size W1 X1) := by rw [hX1]; exact hbl.out.trans (BV.mono hbl.out.size)
        have KX' : Hid (∀ w', Below X1.heap.size X1 w' → w'.cell? ⟨g1, 0, none⟩ = some (.bool s) ∧ w'.cell? ⟨g1, 1, none⟩ = some (.slice ao n0 ca0) ∧ w'.cell? ⟨g1, 2, none⟩ = some (.slice bo m0 cb)) := fun w' hb => KX1.out w' (HB1.out.trans (hb.mono HB1.out.size))
        have KI' : Hid (∀ w', Below X1.heap.size X1 w' → At3 w' b (o + i * 3) r) := fun w' hb => KI.out w' (by rw [hX1] at hb; exact BV.trans (hb.mono BV.size))
        have CM' : Hid (∀ w', Below X1.heap.size X1 w' → Calls Tryz.prog 11 #[.agg #[.bool r.s, .slice r.ao r.n r.ca, .slice r.bo r.m r.cb], .agg #[.bool s, .slice ao n0 ca0, .slice bo m0 cb]] w' fun e w2 => e = .returned (.int .i64 C) ∧ Below w'.heap.size w' w2) := fun w' hb => CM.out w' (by rw [hX1] at hb; exact BV.trans (hb.mono BV.size))
        clear BV hbl KX KI CM
        have KX := KX'
        have KI := KI'
        have CM := CM'
        clear KX' KI' CM'
        by_cases hCe : C = 0
        · have hde : (C == 0) = true := by simp [hCe]
          have hve : Hid (v ∈ vs) := by
            have h := HCF.out.2.1 hCe
            have hil : i < vs.length := by rw [← HVN.out]; exact hlt
            unfold Hid
            rw [← h]
            simp [List.getD, hil]
          go_upto_region 4 with fail
          rw [← hX1]
          clear hX1
          refine wp_region_held_drew (S := fun w' => Below X1.heap.size X1 w') (by kernel_rfl) ((Below.refl _ _).drew) (fun hH => ?_)
          refine wpAnyH_take (i := 0) (v := (.int .i64 (i : Int))) rfl (by kernel_rfl) (by kernel_rfl) (by kernel_rfl) (fun _ _ _ h => h) (Or.inl ⟨by kernel_rfl, ?_⟩) hH ?_
          · intro w1 hB
            go_simp
          change wpAnyH _ _ _ _ _ _ _ (Act.put _ (some 22) _) _
          try simp only [Act.put, List.setIfInBounds_toArray, List.set_cons_zero, List.set_cons_succ]
          refine wpAnyH_take (i := 1) (v := (.slice (some ⟨b, o, none⟩) n c)) rfl (by kernel_rfl) (by kernel_rfl) (by kernel_rfl) (fun _ _ _ h => h) (Or.inl ⟨by kernel_rfl, ?_⟩) hH ?_
          · intro w1 hB
            go_simp
          change wpAnyH _ _ _ _ _ _ _ (Act.put _ (some 23) _) _
          try simp only [Act.put, List.setIfInBounds_toArray, List.set_cons_zero, List.set_cons_succ]
          refine wpAnyH_take (i := 2) (v := (.int .i64 (n : Int))) rfl (by kernel_rfl) (by kernel_rfl) (by kernel_rfl) (fun _ _ _ h => h) (Or.inl ⟨by kernel_rfl, ?_⟩) hH ?_
          · intro w1 hB
            go_simp
          change wpAnyH _ _ _ _ _ _ _ (Act.put _ (some 24) _) _
          try simp only [Act.put, List.setIfInBounds_toArray, List.set_cons_zero, List.set_cons_succ]
          refine wpAnyH_take (i := 3) (v := (.bool true)) rfl (by kernel_rfl) (by kernel_rfl) (by kernel_rfl) (fun _ _ _ h => h) (Or.inl ⟨by kernel_rfl, ?_⟩) hH ?_
          · intro w1 hB
            go_simp
          change wpAnyH _ _ _ _ _ _ _ (Act.put _ (some 25) _) _
          try simp only [Act.put, List.setIfInBounds_toArray, List.set_cons_zero, List.set_cons_succ]
          refine wpAnyH_take (i := 4) (v := (.bool true)) rfl (by kernel_rfl) (by kernel_rfl) (by kernel_rfl) (fun _ _ _ h => h) (Or.inl ⟨by kernel_rfl, ?_⟩) hH ?_
          · intro w1 hB
            go_simp
          change wpAnyH _ _ _ _ _ _ _ (Act.put _ (some 26) _) _
          try simp only [Act.put, List.setIfInBounds_toArray, List.set_cons_zero, List.set_cons_succ]
          refine wpAnyH_take (i := 5) (v := (.slice (some ⟨b, o, none⟩) n c)) rfl (by kernel_rfl) (by kernel_rfl) (by kernel_rfl) (fun _ _ _ h => h) (Or.inl ⟨by kernel_rfl, ?_⟩) hH ?_
          · intro w1 hB
            go_simp
          change wpAnyH _ _ _ _ _ _ _ (Act.put _ (some 27) _) _
          try simp only [Act.put, List.setIfInBounds_toArray, List.set_cons_zero, List.set_cons_succ]
          refine wpAnyH_take (i := 6) (v := (.int .i64 (i : Int))) rfl (by kernel_rfl) (by kernel_rfl) (by kernel_rfl) (fun _ _ _ h => h) (Or.inl ⟨by kernel_rfl, ?_⟩) hH ?_
          · intro w1 hB
            go_simp
          change wpAnyH _ _ _ _ _ _ _ (Act.put _ (some 28) _) _
          try simp only [Act.put, List.setIfInBounds_toArray, List.set_cons_zero, List.set_cons_succ]
          refine wpAnyH_take (i := 7) (v := (.pointer (some ⟨b, o + i * 3, none⟩))) rfl (by kernel_rfl) (by kernel_rfl) (by kernel_rfl) (fun _ _ _ h => h) (Or.inl ⟨by kernel_rfl, ?_⟩) hH ?_
          · intro w1 hB
            go_simp
          change wpAnyH _ _ _ _ _ _ _ (Act.put _ (some 29) _) _
          try simp only [Act.put, List.setIfInBounds_toArray, List.set_cons_zero, List.set_cons_succ]
          refine wpAnyH_take (i := 8) (v := (.agg #[.bool r.s, .slice r.ao r.n r.ca, .slice r.bo r.m r.cb])) rfl (by kernel_rfl) (by kernel_rfl) (by kernel_rfl) (fun _ _ _ h => h) (Or.inl ⟨by kernel_rfl, ?_⟩) hH ?_
          · intro w1 hB
            obtain ⟨j0, j1, j2⟩ := KX.out w1 hB
            try obtain ⟨l0, l1, l2⟩ := KI.out w1 hB
            go_simp
          change wpAnyH _ _ _ _ _ _ _ (Act.put _ (some 30) _) _
          try simp only [Act.put, List.setIfInBounds_toArray, List.set_cons_zero, List.set_cons_succ]
          refine wpAnyH_take (i := 9) (v := (.agg #[.bool s, .slice ao n0 ca0, .slice bo m0 cb])) rfl (by kernel_rfl) (by kernel_rfl) (by kernel_rfl) (fun _ _ _ h => h) (Or.inl ⟨by kernel_rfl, ?_⟩) hH ?_
          · intro w1 hB
            obtain ⟨j0, j1, j2⟩ := KX.out w1 hB
            try obtain ⟨l0, l1, l2⟩ := KI.out w1 hB
            go_simp
          change wpAnyH _ _ _ _ _ _ _ (Act.put _ (some 31) _) _
          try simp only [Act.put, List.setIfInBounds_toArray, List.set_cons_zero, List.set_cons_succ]
          refine wpAnyH_ready (rs := [10]) (by kernel_rfl) (by simp) ?_
          refine AllReadyH.cons rfl (fun K hK => ?_) AllReadyH.nil
          go_simp
          refine (CM.out _ hH).mono ?_
          rintro e V10 ⟨rfl, v10⟩
          try go_simp
          refine hK.out _ _ (keepB v10 hH (Nat.le_refl _)) (fun hH10 => ?_)
          clear hK K
          try simp only [Act.put, List.setIfInBounds_toArray, List.set_cons_zero, List.set_cons_succ]
          refine wpAnyH_take (i := 11) (v := (.bool true)) rfl (by kernel_rfl) (by kernel_rfl) (by kernel_rfl) (fun _ _ _ h => h) (Or.inl ⟨by kernel_rfl, ?_⟩) hH10 ?_
          · intro w1 hB
            go_simp
          change wpAnyH _ _ _ _ _ _ _ (Act.put _ (some 33) _) _
          try simp only [Act.put, List.setIfInBounds_toArray, List.set_cons_zero, List.set_cons_succ]
          refine wpAnyH_take (i := 12) (v := (.bool true)) rfl (by kernel_rfl) (by kernel_rfl) (by kernel_rfl) (fun _ _ _ h => h) (Or.inl ⟨by kernel_rfl, ?_⟩) hH10 ?_
          · intro w1 hB
            go_simp
          change wpAnyH _ _ _ _ _ _ _ (Act.put _ (some 34) _) _
          try simp only [Act.put, List.setIfInBounds_toArray, List.set_cons_zero, List.set_cons_succ]
          refine wpAnyH_done (by kernel_rfl) ?_ _
          have BV : Below X1.heap.size X1 _ := hH10
          have HBV := Lib.hid (HB1.out.trans (BV.mono HB1.out.size))
          have FIN : Hid (PutP vs A v n w _ (some ⟨b, o, none⟩) n c) := ⟨vs, HVN.out, HUP.out, fun y => ⟨fun h => .inr h, fun h => h.elim (fun e => by rw [e]; exact hve.out) id⟩, by have := HVN.out; omega, ⟨rs, HRL.out, RAT.out _ HBV.out, by have := HL.out _ HBV.out; unfold Lq at this; rwa [← HVN.out] at this⟩, HBW.out.trans (HBV.out.mono HBW.out.size)⟩
          clear BV KX KI CM
          go_wp2_with fail
          go_ret
          exact ⟨_, n, c, rfl, FIN.out⟩
        · have hde : (C == 0) = false := beq_eq_false_iff_ne.2 hCe
          have HHI : Hid (∀ x ∈ vs.drop i, v < x) := fun x hx => by
            have hil : i < vs.length := by rw [← HVN.out]; exact hlt
            have hvi : v < vs.getD i 0 := by
              have h1 := HCF.out.1
              have h2 := HCF.out.2
              have : ¬ vs.getD i 0 < v := fun h => hC0 (h1.2 h)
              have : ¬ vs.getD i 0 = v := fun h => hCe (h2.2 h)
              omega
            rw [show vs.getD i 0 = vs[i] by simp [List.getD, hil]] at hvi
            obtain ⟨j, hj, rfl⟩ := List.mem_iff_getElem.1 hx
            rw [List.length_drop] at hj
            rw [List.getElem_drop]
            by_cases e : j = 0
            · subst e; exact hvi
            · have := List.pairwise_iff_getElem.1 HUP.out i (i + j) hil (by omega) (by omega)
              omega
          go_upto_region 4 with fail
          rw [← hX1]
          clear hX1
          refine wp_region_held_drew (S := fun w' => Below X1.heap.size X1 w') (by kernel_rfl) ((Below.refl _ _).drew) (fun hH => ?_)
          refine wpAnyH_take (i := 0) (v := (.int .i64 (i : Int))) rfl (by kernel_rfl) (by kernel_rfl) (by kernel_rfl) (fun _ _ _ h => h) (Or.inl ⟨by kernel_rfl, ?_⟩) hH ?_
          · intro w1 hB
            go_simp
          change wpAnyH _ _ _ _ _ _ _ (Act.put _ (some 22) _) _
          try simp only [Act.put, List.setIfInBounds_toArray, List.set_cons_zero, List.set_cons_succ]
          refine wpAnyH_take (i := 1) (v := (.slice (some ⟨b, o, none⟩) n c)) rfl (by kernel_rfl) (by kernel_rfl) (by kernel_rfl) (fun _ _ _ h => h) (Or.inl ⟨by kernel_rfl, ?_⟩) hH ?_
          · intro w1 hB
            go_simp
          change wpAnyH _ _ _ _ _ _ _ (Act.put _ (some 23) _) _
          try simp only [Act.put, List.setIfInBounds_toArray, List.set_cons_zero, List.set_cons_succ]
          refine wpAnyH_take (i := 2) (v := (.int .i64 (n : Int))) rfl (by kernel_rfl) (by kernel_rfl) (by kernel_rfl) (fun _ _ _ h => h) (Or.inl ⟨by kernel_rfl, ?_⟩) hH ?_
          · intro w1 hB
            go_simp
          change wpAnyH _ _ _ _ _ _ _ (Act.put _ (some 24) _) _
          try simp only [Act.put, List.setIfInBounds_toArray, List.set_cons_zero, List.set_cons_succ]
          refine wpAnyH_take (i := 3) (v := (.bool true)) rfl (by kernel_rfl) (by kernel_rfl) (by kernel_rfl) (fun _ _ _ h => h) (Or.inl ⟨by kernel_rfl, ?_⟩) hH ?_
          · intro w1 hB
            go_simp
          change wpAnyH _ _ _ _ _ _ _ (Act.put _ (some 25) _) _
          try simp only [Act.put, List.setIfInBounds_toArray, List.set_cons_zero, List.set_cons_succ]
          refine wpAnyH_take (i := 4) (v := (.bool true)) rfl (by kernel_rfl) (by kernel_rfl) (by kernel_rfl) (fun _ _ _ h => h) (Or.inl ⟨by kernel_rfl, ?_⟩) hH ?_
          · intro w1 hB
            go_simp
          change wpAnyH _ _ _ _ _ _ _ (Act.put _ (some 26) _) _
          try simp only [Act.put, List.setIfInBounds_toArray, List.set_cons_zero, List.set_cons_succ]
          refine wpAnyH_take (i := 5) (v := (.slice (some ⟨b, o, none⟩) n c)) rfl (by kernel_rfl) (by kernel_rfl) (by kernel_rfl) (fun _ _ _ h => h) (Or.inl ⟨by kernel_rfl, ?_⟩) hH ?_
          · intro w1 hB
            go_simp
          change wpAnyH _ _ _ _ _ _ _ (Act.put _ (some 27) _) _
          try simp only [Act.put, List.setIfInBounds_toArray, List.set_cons_zero, List.set_cons_succ]
          refine wpAnyH_take (i := 6) (v := (.int .i64 (i : Int))) rfl (by kernel_rfl) (by kernel_rfl) (by kernel_rfl) (fun _ _ _ h => h) (Or.inl ⟨by kernel_rfl, ?_⟩) hH ?_
          · intro w1 hB
            go_simp
          change wpAnyH _ _ _ _ _ _ _ (Act.put _ (some 28) _) _
          try simp only [Act.put, List.setIfInBounds_toArray, List.set_cons_zero, List.set_cons_succ]
          refine wpAnyH_take (i := 7) (v := (.pointer (some ⟨b, o + i * 3, none⟩))) rfl (by kernel_rfl) (by kernel_rfl) (by kernel_rfl) (fun _ _ _ h => h) (Or.inl ⟨by kernel_rfl, ?_⟩) hH ?_
          · intro w1 hB
            go_simp
          change wpAnyH _ _ _ _ _ _ _ (Act.put _ (some 29) _) _
          try simp only [Act.put, List.setIfInBounds_toArray, List.set_cons_zero, List.set_cons_succ]
          refine wpAnyH_take (i := 8) (v := (.agg #[.bool r.s, .slice r.ao r.n r.ca, .slice r.bo r.m r.cb])) rfl (by kernel_rfl) (by kernel_rfl) (by kernel_rfl) (fun _ _ _ h => h) (Or.inl ⟨by kernel_rfl, ?_⟩) hH ?_
          · intro w1 hB
            obtain ⟨j0, j1, j2⟩ := KX.out w1 hB
            try obtain ⟨l0, l1, l2⟩ := KI.out w1 hB
            go_simp
          change wpAnyH _ _ _ _ _ _ _ (Act.put _ (some 30) _) _
          try simp only [Act.put, List.setIfInBounds_toArray, List.set_cons_zero, List.set_cons_succ]
          refine wpAnyH_take (i := 9) (v := (.agg #[.bool s, .slice ao n0 ca0, .slice bo m0 cb])) rfl (by kernel_rfl) (by kernel_rfl) (by kernel_rfl) (fun _ _ _ h => h) (Or.inl ⟨by kernel_rfl, ?_⟩) hH ?_
          · intro w1 hB
            obtain ⟨j0, j1, j2⟩ := KX.out w1 hB
            try obtain ⟨l0, l1, l2⟩ := KI.out w1 hB
            go_simp
          change wpAnyH _ _ _ _ _ _ _ (Act.put _ (some 31) _) _
          try simp only [Act.put, List.setIfInBounds_toArray, List.set_cons_zero, List.set_cons_succ]
          refine wpAnyH_ready (rs := [10]) (by kernel_rfl) (by simp) ?_
          refine AllReadyH.cons rfl (fun K hK => ?_) AllReadyH.nil
          go_simp
          refine (CM.out _ hH).mono ?_
          rintro e V10 ⟨rfl, v10⟩
          try go_simp
          refine hK.out _ _ (keepB v10 hH (Nat.le_refl _)) (fun hH10 => ?_)
          clear hK K
          try simp only [Act.put, List.setIfInBounds_toArray, List.set_cons_zero, List.set_cons_succ]
          refine wpAnyH_take (i := 11) (v := (.bool false)) rfl (by kernel_rfl) (by kernel_rfl) (by kernel_rfl) (fun _ _ _ h => h) (Or.inl ⟨by kernel_rfl, ?_⟩) hH10 ?_
          · intro w1 hB
            go_simp
          change wpAnyH _ _ _ _ _ _ _ (Act.put _ (some 33) _) _
          try simp only [Act.put, List.setIfInBounds_toArray, List.set_cons_zero, List.set_cons_succ]
          refine wpAnyH_take (i := 12) (v := (.bool false)) rfl (by kernel_rfl) (by kernel_rfl) (by kernel_rfl) (fun _ _ _ h => h) (Or.inl ⟨by kernel_rfl, ?_⟩) hH10 ?_
          · intro w1 hB
            go_simp
          change wpAnyH _ _ _ _ _ _ _ (Act.put _ (some 34) _) _
          try simp only [Act.put, List.setIfInBounds_toArray, List.set_cons_zero, List.set_cons_succ]
          refine wpAnyH_done (by kernel_rfl) ?_ _
          have BV : Below X1.heap.size X1 _ := hH10
          have HBV := Lib.hid (HB1.out.trans (BV.mono HB1.out.size))
          obtain ⟨X2, hX2⟩ : ∃ X, X = V10 := ⟨_, rfl⟩
          have HBX : Hid (Below W1.heap.size W1 V10) := HBV.out
          clear BV KX KI CM hlow HCF HB1 HBV hX2 X2
          obtain ⟨gR, hgR⟩ : ∃ g, g = V10.heap.size := ⟨_, rfl⟩
          have HGR := Lib.hid hgR
          have hLit : (V10.alloc (.cells #[] 35)).ownsRow V10.heap.size 35 3 (.slice (some ⟨V10.heap.size, 0, none⟩) 0 0) 0 (rvs []) := World.ownsRow_lit (base := V10.heap.size) (e := 35) (size := 3) V10 #[] 0 (Nat.le_refl _) (by unfold maxLen; omega) rfl
          have HLIT := Lib.hid hLit
          have HL0 : Hid (∀ w', Below V10.heap.size V10 w' → Lq w' A vs rs ∧ (∀ j u, (rvs rs)[j]? = some u → w'.cell? ⟨b, o + j, none⟩ = some u)) := fun w' hb => ⟨HL.out w' (HBX.out.trans (hb.mono HBX.out.size)), HC.out w' (HBX.out.trans (hb.mono HBX.out.size))⟩
          have KX0 : Hid (∀ w', Below V10.heap.size V10 w' → w'.cell? ⟨g1, 0, none⟩ = some (.bool s) ∧ w'.cell? ⟨g1, 1, none⟩ = some (.slice ao n0 ca0) ∧ w'.cell? ⟨g1, 2, none⟩ = some (.slice bo m0 cb) ∧ CQ 0 w' s ao n0 ca0 bo m0 cb (fq v A) 2) := fun w' hb => by
            obtain ⟨j0, j1, j2⟩ := KX1.out w' (HBX.out.trans (hb.mono HBX.out.size))
            exact ⟨j0, j1, j2, QX.out w' (HBX.out.trans (hb.mono HBX.out.size))⟩
          have nA0 := below_new V10 (.cells #[] 35)
          have NA0 := Lib.hid nA0
          have hin : i ≤ n := by omega
          have hrt : (rvs (rs.take i)).length = i * 3 := by rw [rvs_length, List.length_take, HRL.out]; omega
          have HRT := Lib.hid hrt
          clear hgR hLit nA0 hrt
          go_upto_region 7 with (at_builtin; refine wpList_append_own _ rfl _ _ 38 rfl V10.heap.size 35 r0 (.agg #[.bool false, .slice none 0 0, .slice none 0 0]) 3 56 Tryz.underlying38 HRI.out.1 HRI.out.2.1 HRI.out.2.2.1 HRI.out.2.2.2 rfl (by omega) _ 0 (rvs []) rfl HLIT.out ⟨b, o, none⟩ i c (rvs (rs.take i)) rfl HRT.out (by intro j u hj; rw [rvs_tk] at hj; rw [Addr.add_lit]; exact (HL0.out _ NA0.out).2 j u (by rw [List.getElem?_take] at hj; split at hj; exact hj; cases hj)) (rvs_one _) (by unfold maxLen; omega) (by omega) (by simp) ?_; intro v6 w6 hown6 hgr6 _; rw [Nat.zero_add] at hown6; obtain ⟨a6, c6, rfl⟩ := row_n hown6; have HO6 := Lib.hid hown6; have HG6 := Lib.hid hgr6; clear hown6 hgr6)
          have HB6 : Hid (Below V10.heap.size V10 w6) := NA0.out.grown HG6.out (by simp) (fun k e => (HLIT.out.lt k e).1)
          have HW6 : Hid (w6.ownsRow V10.heap.size 35 3 (.slice a6 i c6) i (rvs (rs.take i))) := HO6.out
          have hs6 : Hid (V10.heap.size ≤ w6.heap.size) := HB6.out.size
          obtain ⟨j0, j1, j2, _⟩ := KX0.out w6 HB6.out
          clear HO6 HG6
          go_upto_region 8 with (at_builtin; refine wpList_append_own _ rfl _ _ 38 rfl V10.heap.size 35 r0 (.agg #[.bool false, .slice none 0 0, .slice none 0 0]) 3 56 Tryz.underlying38 HRI.out.1 HRI.out.2.1 HRI.out.2.2.1 HRI.out.2.2.2 rfl (by omega) _ _ _ rfl (HW6.out.alloc _) ⟨w6.heap.size, 0, none⟩ 1 1 [.bool s, .slice ao n0 ca0, .slice bo m0 cb] rfl rfl (three_cell _ _ _ _ _) (by intro u hu; simp at hu; rcases hu with rfl | rfl | rfl <;> rfl) (by unfold maxLen; omega) (by omega) (by have := hs6.out; simp; omega) ?_; intro v7 w7 hown7 hgr7 _; obtain ⟨a7, c7, rfl⟩ := row_n hown7; have HO7 := Lib.hid hown7; have HG7 := Lib.hid hgr7; clear hown7 hgr7)
          have HB7 : Hid (Below V10.heap.size V10 w7) := (HB6.out.trans ((below_new w6 _).mono hs6.out)).grown HG7.out (by have := hs6.out; simp; omega) (fun k e => (HW6.out.lt k e).1)
          have HW7 : Hid (w7.ownsRow V10.heap.size 35 3 (.slice a7 (i + 1) c7) (i + 1) (rvs (rs.take i ++ [⟨s, ao, n0, ca0, bo, m0, cb⟩]))) := by unfold Hid; rw [rvs_append]; exact HO7.out
          have hs7 : Hid (V10.heap.size ≤ w7.heap.size) := HB7.out.size
          clear HO7 HG7 j0 j1 j2 HW6 HB6 hs6
          have hrd : (rvs (rs.drop i)).length = (n - i) * 3 := by rw [rvs_length, List.length_drop, HRL.out]
          have HRD := Lib.hid hrd
          have hni : (n : Int) - (i : Int) = ((n - i : Nat) : Int) := by omega
          have hci : (c : Int) - (i : Int) = ((c - i : Nat) : Int) := by omega
          have hicc : i ≤ c := by omega
          clear hrd
          have hic : i < c := by omega
          go_wp2_with (at_builtin; refine wpList_append_own _ rfl _ _ 38 rfl V10.heap.size 35 r0 (.agg #[.bool false, .slice none 0 0, .slice none 0 0]) 3 56 Tryz.underlying38 HRI.out.1 HRI.out.2.1 HRI.out.2.2.1 HRI.out.2.2.2 rfl (by omega) _ _ _ rfl HW7.out ⟨b, o + i * 3, none⟩ (n - i) (c - i) (rvs (rs.drop i)) rfl HRD.out (by intro j u hj; rw [rvs_dr, List.getElem?_drop] at hj; rw [Addr.add_lit, Nat.add_assoc]; exact (HL0.out _ HB7.out).2 _ u hj) (rvs_one _) (by unfold maxLen; omega) (by omega) (by have := hs7.out; omega) ?_; intro v8 w8 hown8 hgr8 _; obtain ⟨a8, c8, rfl⟩ := row_n hown8; have HO8 := Lib.hid hown8; have HG8 := Lib.hid hgr8; clear hown8 hgr8)
          all_goals
            have HB8 : Hid (Below V10.heap.size V10 w8) := HB7.out.grown HG8.out hs7.out (fun k e => (HW7.out.lt k e).1)
            have hl7 : Lq w7 A (vs.take i ++ [v]) (rs.take i ++ [⟨s, ao, n0, ca0, bo, m0, cb⟩]) := ((HL0.out w7 HB7.out).1.take i).app (Lq.one (KX0.out w7 HB7.out).2.2.2)
            have hl8 : Lq w8 A ((vs.take i ++ [v]) ++ vs.drop i) ((rs.take i ++ [⟨s, ao, n0, ca0, bo, m0, cb⟩]) ++ rs.drop i) := (hl7.keep HW7.out HG8.out).app ((HL0.out w8 HB8.out).1.drop i)
            have FIN : Hid (PutP vs A v n w w8 a8 (i + 1 + (n - i)) c8) := by
              have hrow : w8.ownsRow V10.heap.size 35 3 (.slice a8 (i + 1 + (n - i)) c8) (i + 1 + (n - i)) (rvs ((rs.take i ++ [⟨s, ao, n0, ca0, bo, m0, cb⟩]) ++ rs.drop i)) := by rw [rvs_app]; exact HO8.out
              obtain ⟨ra, rc, e, hrd⟩ := RdR.of_row hrow
              simp only [Value.slice.injEq] at e
              obtain ⟨rfl, _, rfl⟩ := e
              have hus : (vs.take i ++ [v]) ++ vs.drop i = vs.take i ++ v :: vs.drop i := by simp
              rw [hus] at hl8
              have hln : (vs.take i ++ v :: vs.drop i).length = i + 1 + (n - i) := by
                rw [List.length_append, List.length_cons, List.length_take, List.length_drop, ← HVN.out]
                omega
              exact ⟨vs.take i ++ v :: vs.drop i, hln.symm, ins_up HUP.out (HLO.out) (HHI.out), fun y => ins_mem i v y, by omega, ⟨_, by rw [hl8.len, hln], hrd, by rw [← hln]; exact hl8⟩, HBW.out.trans ((HBX.out.trans (HB8.out.mono HBX.out.size)).mono HBW.out.size)⟩
            clear HB8 hl7 hl8 HO8 HG8 HB7 HW7
            go_wp2_with fail
            go_ret
            exact ⟨a8, _, c8, rfl, FIN.out⟩
    · obtain rfl : i = n := by omega
      have hlt2 : ¬ (i : Int) < (i : Int) := by omega
      have HHI : Hid (∀ x ∈ vs.drop i, v < x) := fun x hx => by
        rw [List.drop_of_length_le (by rw [← HVN.out]; exact Nat.le_refl _)] at hx
        cases hx
      go_upto_region 2 with fail
      refine wp_region_held_drew (S := fun w' => Below wr.heap.size wr w') (by kernel_rfl) ((Below.refl _ _).drew) (fun hH => ?_)
      refine wpAnyH_take (i := 0) (v := (.int .i64 (i : Int))) rfl (by kernel_rfl) (by kernel_rfl) (by kernel_rfl) (fun _ _ _ h => h) (Or.inl ⟨by kernel_rfl, ?_⟩) hH ?_
      · intro w1 hB
        go_simp
      change wpAnyH _ _ _ _ _ _ _ (Act.put _ (some 7) _) _
      try simp only [Act.put, List.setIfInBounds_toArray, List.set_cons_zero, List.set_cons_succ]
      refine wpAnyH_take (i := 1) (v := (.slice (some ⟨b, o, none⟩) i c)) rfl (by kernel_rfl) (by kernel_rfl) (by kernel_rfl) (fun _ _ _ h => h) (Or.inl ⟨by kernel_rfl, ?_⟩) hH ?_
      · intro w1 hB
        go_simp
      change wpAnyH _ _ _ _ _ _ _ (Act.put _ (some 8) _) _
      try simp only [Act.put, List.setIfInBounds_toArray, List.set_cons_zero, List.set_cons_succ]
      refine wpAnyH_take (i := 2) (v := (.int .i64 (i : Int))) rfl (by kernel_rfl) (by kernel_rfl) (by kernel_rfl) (fun _ _ _ h => h) (Or.inl ⟨by kernel_rfl, ?_⟩) hH ?_
      · intro w1 hB
        go_simp
      change wpAnyH _ _ _ _ _ _ _ (Act.put _ (some 9) _) _
      try simp only [Act.put, List.setIfInBounds_toArray, List.set_cons_zero, List.set_cons_succ]
      refine wpAnyH_take (i := 3) (v := (.bool false)) rfl (by kernel_rfl) (by kernel_rfl) (by kernel_rfl) (fun _ _ _ h => h) (Or.inl ⟨by kernel_rfl, ?_⟩) hH ?_
      · intro w1 hB
        go_simp
      change wpAnyH _ _ _ _ _ _ _ (Act.put _ (some 10) _) _
      try simp only [Act.put, List.setIfInBounds_toArray, List.set_cons_zero, List.set_cons_succ]
      refine wpAnyH_take (i := 4) (v := (.bool false)) rfl (by kernel_rfl) (by kernel_rfl) (by kernel_rfl) (fun _ _ _ h => h) (Or.inl ⟨by kernel_rfl, ?_⟩) hH ?_
      · intro w1 hB
        go_simp
      change wpAnyH _ _ _ _ _ _ _ (Act.put _ (some 11) _) _
      try simp only [Act.put, List.setIfInBounds_toArray, List.set_cons_zero, List.set_cons_succ]
      refine wpAnyH_take (i := 5) (v := undef) rfl (by kernel_rfl) (by kernel_rfl) (by kernel_rfl) (fun _ _ _ h => h) (Or.inr ⟨by kernel_rfl, rfl⟩) hH ?_
      change wpAnyH _ _ _ _ _ _ _ (Act.put _ (some 12) _) _
      try simp only [Act.put, List.setIfInBounds_toArray, List.set_cons_zero, List.set_cons_succ]
      refine wpAnyH_take (i := 6) (v := undef) rfl (by kernel_rfl) (by kernel_rfl) (by kernel_rfl) (fun _ _ _ h => h) (Or.inr ⟨by kernel_rfl, rfl⟩) hH ?_
      change wpAnyH _ _ _ _ _ _ _ (Act.put _ (some 13) _) _
      try simp only [Act.put, List.setIfInBounds_toArray, List.set_cons_zero, List.set_cons_succ]
      refine wpAnyH_take (i := 7) (v := undef) rfl (by kernel_rfl) (by kernel_rfl) (by kernel_rfl) (fun _ _ _ h => h) (Or.inr ⟨by kernel_rfl, rfl⟩) hH ?_
      change wpAnyH _ _ _ _ _ _ _ (Act.put _ (some 14) _) _
      try simp only [Act.put, List.setIfInBounds_toArray, List.set_cons_zero, List.set_cons_succ]
      refine wpAnyH_take (i := 8) (v := undef) rfl (by kernel_rfl) (by kernel_rfl) (by kernel_rfl) (fun _ _ _ h => h) (Or.inr ⟨by kernel_rfl, rfl⟩) hH ?_
      change wpAnyH _ _ _ _ _ _ _ (Act.put _ (some 15) _) _
      try simp only [Act.put, List.setIfInBounds_toArray, List.set_cons_zero, List.set_cons_succ]
      refine wpAnyH_take (i := 9) (v := undef) rfl (by kernel_rfl) (by kernel_rfl) (by kernel_rfl) (fun _ _ _ h => h) (Or.inr ⟨by kernel_rfl, rfl⟩) hH ?_
      change wpAnyH _ _ _ _ _ _ _ (Act.put _ (some 16) _) _
      try simp only [Act.put, List.setIfInBounds_toArray, List.set_cons_zero, List.set_cons_succ]
      refine wpAnyH_take (i := 10) (v := undef) rfl (by kernel_rfl) (by kernel_rfl) (by kernel_rfl) (fun _ _ _ h => h) (Or.inr ⟨by kernel_rfl, rfl⟩) hH ?_
      change wpAnyH _ _ _ _ _ _ _ (Act.put _ (some 17) _) _
      try simp only [Act.put, List.setIfInBounds_toArray, List.set_cons_zero, List.set_cons_succ]
      refine wpAnyH_take (i := 11) (v := undef) rfl (by kernel_rfl) (by kernel_rfl) (by kernel_rfl) (fun _ _ _ h => h) (Or.inr ⟨by kernel_rfl, rfl⟩) hH ?_
      change wpAnyH _ _ _ _ _ _ _ (Act.put _ (some 18) _) _
      try simp only [Act.put, List.setIfInBounds_toArray, List.set_cons_zero, List.set_cons_succ]
      refine wpAnyH_take (i := 12) (v := (.bool false)) rfl (by kernel_rfl) (by kernel_rfl) (by kernel_rfl) (fun _ _ _ h => h) (Or.inl ⟨by kernel_rfl, ?_⟩) hH ?_
      · intro w1 hB
        go_simp
      change wpAnyH _ _ _ _ _ _ _ (Act.put _ (some 19) _) _
      try simp only [Act.put, List.setIfInBounds_toArray, List.set_cons_zero, List.set_cons_succ]
      refine wpAnyH_done (by kernel_rfl) ?_ _
      have BV : Below wr.heap.size wr _ := hH
      have HB1 := Lib.hid (hbl.out.trans (BV.mono hbl.out.size))
      obtain ⟨X1, hX1⟩ : ∃ X, X = wr.drew := ⟨_, rfl⟩
      rw [← hX1] at HB1
      clear BV hbl
      have KX' : Hid (∀ w', Below X1.heap.size X1 w' → w'.cell? ⟨g1, 0, none⟩ = some (.bool s) ∧ w'.cell? ⟨g1, 1, none⟩ = some (.slice ao n0 ca0) ∧ w'.cell? ⟨g1, 2, none⟩ = some (.slice bo m0 cb)) := fun w' hb => KX1.out w' (HB1.out.trans (hb.mono HB1.out.size))
      clear KX
      have KX := KX'
      clear KX'
      go_upto_region 4 with fail
      try rw [← hX1]
      refine wp_region_held_drew (S := fun w' => Below X1.heap.size X1 w') (by kernel_rfl) ((Below.refl _ _).drew) (fun hH => ?_)
      refine wpAnyH_take (i := 0) (v := (.int .i64 (i : Int))) rfl (by kernel_rfl) (by kernel_rfl) (by kernel_rfl) (fun _ _ _ h => h) (Or.inl ⟨by kernel_rfl, ?_⟩) hH ?_
      · intro w1 hB
        go_simp
      change wpAnyH _ _ _ _ _ _ _ (Act.put _ (some 22) _) _
      try simp only [Act.put, List.setIfInBounds_toArray, List.set_cons_zero, List.set_cons_succ]
      refine wpAnyH_take (i := 1) (v := (.slice (some ⟨b, o, none⟩) i c)) rfl (by kernel_rfl) (by kernel_rfl) (by kernel_rfl) (fun _ _ _ h => h) (Or.inl ⟨by kernel_rfl, ?_⟩) hH ?_
      · intro w1 hB
        go_simp
      change wpAnyH _ _ _ _ _ _ _ (Act.put _ (some 23) _) _
      try simp only [Act.put, List.setIfInBounds_toArray, List.set_cons_zero, List.set_cons_succ]
      refine wpAnyH_take (i := 2) (v := (.int .i64 (i : Int))) rfl (by kernel_rfl) (by kernel_rfl) (by kernel_rfl) (fun _ _ _ h => h) (Or.inl ⟨by kernel_rfl, ?_⟩) hH ?_
      · intro w1 hB
        go_simp
      change wpAnyH _ _ _ _ _ _ _ (Act.put _ (some 24) _) _
      try simp only [Act.put, List.setIfInBounds_toArray, List.set_cons_zero, List.set_cons_succ]
      refine wpAnyH_take (i := 3) (v := (.bool false)) rfl (by kernel_rfl) (by kernel_rfl) (by kernel_rfl) (fun _ _ _ h => h) (Or.inl ⟨by kernel_rfl, ?_⟩) hH ?_
      · intro w1 hB
        go_simp
      change wpAnyH _ _ _ _ _ _ _ (Act.put _ (some 25) _) _
      try simp only [Act.put, List.setIfInBounds_toArray, List.set_cons_zero, List.set_cons_succ]
      refine wpAnyH_take (i := 4) (v := (.bool false)) rfl (by kernel_rfl) (by kernel_rfl) (by kernel_rfl) (fun _ _ _ h => h) (Or.inl ⟨by kernel_rfl, ?_⟩) hH ?_
      · intro w1 hB
        go_simp
      change wpAnyH _ _ _ _ _ _ _ (Act.put _ (some 26) _) _
      try simp only [Act.put, List.setIfInBounds_toArray, List.set_cons_zero, List.set_cons_succ]
      refine wpAnyH_take (i := 5) (v := undef) rfl (by kernel_rfl) (by kernel_rfl) (by kernel_rfl) (fun _ _ _ h => h) (Or.inr ⟨by kernel_rfl, rfl⟩) hH ?_
      change wpAnyH _ _ _ _ _ _ _ (Act.put _ (some 27) _) _
      try simp only [Act.put, List.setIfInBounds_toArray, List.set_cons_zero, List.set_cons_succ]
      refine wpAnyH_take (i := 6) (v := undef) rfl (by kernel_rfl) (by kernel_rfl) (by kernel_rfl) (fun _ _ _ h => h) (Or.inr ⟨by kernel_rfl, rfl⟩) hH ?_
      change wpAnyH _ _ _ _ _ _ _ (Act.put _ (some 28) _) _
      try simp only [Act.put, List.setIfInBounds_toArray, List.set_cons_zero, List.set_cons_succ]
      refine wpAnyH_take (i := 7) (v := undef) rfl (by kernel_rfl) (by kernel_rfl) (by kernel_rfl) (fun _ _ _ h => h) (Or.inr ⟨by kernel_rfl, rfl⟩) hH ?_
      change wpAnyH _ _ _ _ _ _ _ (Act.put _ (some 29) _) _
      try simp only [Act.put, List.setIfInBounds_toArray, List.set_cons_zero, List.set_cons_succ]
      refine wpAnyH_take (i := 8) (v := undef) rfl (by kernel_rfl) (by kernel_rfl) (by kernel_rfl) (fun _ _ _ h => h) (Or.inr ⟨by kernel_rfl, rfl⟩) hH ?_
      change wpAnyH _ _ _ _ _ _ _ (Act.put _ (some 30) _) _
      try simp only [Act.put, List.setIfInBounds_toArray, List.set_cons_zero, List.set_cons_succ]
      refine wpAnyH_take (i := 9) (v := undef) rfl (by kernel_rfl) (by kernel_rfl) (by kernel_rfl) (fun _ _ _ h => h) (Or.inr ⟨by kernel_rfl, rfl⟩) hH ?_
      change wpAnyH _ _ _ _ _ _ _ (Act.put _ (some 31) _) _
      try simp only [Act.put, List.setIfInBounds_toArray, List.set_cons_zero, List.set_cons_succ]
      refine wpAnyH_take (i := 10) (v := undef) rfl (by kernel_rfl) (by kernel_rfl) (by kernel_rfl) (fun _ _ _ h => h) (Or.inr ⟨by kernel_rfl, rfl⟩) hH ?_
      change wpAnyH _ _ _ _ _ _ _ (Act.put _ (some 32) _) _
      try simp only [Act.put, List.setIfInBounds_toArray, List.set_cons_zero, List.set_cons_succ]
      refine wpAnyH_take (i := 11) (v := undef) rfl (by kernel_rfl) (by kernel_rfl) (by kernel_rfl) (fun _ _ _ h => h) (Or.inr ⟨by kernel_rfl, rfl⟩) hH ?_
      change wpAnyH _ _ _ _ _ _ _ (Act.put _ (some 33) _) _
      try simp only [Act.put, List.setIfInBounds_toArray, List.set_cons_zero, List.set_cons_succ]
      refine wpAnyH_take (i := 12) (v := (.bool false)) rfl (by kernel_rfl) (by kernel_rfl) (by kernel_rfl) (fun _ _ _ h => h) (Or.inl ⟨by kernel_rfl, ?_⟩) hH ?_
      · intro w1 hB
        go_simp
      change wpAnyH _ _ _ _ _ _ _ (Act.put _ (some 34) _) _
      try simp only [Act.put, List.setIfInBounds_toArray, List.set_cons_zero, List.set_cons_succ]
      refine wpAnyH_done (by kernel_rfl) ?_ _
      have BV : Below X1.heap.size X1 _ := hH
      have HBX : Hid (Below W1.heap.size W1 X1.drew) := HB1.out.trans (BV.mono HB1.out.size)
      obtain ⟨X2, hX2⟩ : ∃ X, X = X1.drew := ⟨_, rfl⟩
      rw [← hX2] at HBX
      clear BV KX hlow HB1
      try rw [← hX2]
      clear hX2
      obtain ⟨gR, hgR⟩ : ∃ g, g = X2.heap.size := ⟨_, rfl⟩
      have HGR := Lib.hid hgR
      have hLit : (X2.alloc (.cells #[] 35)).ownsRow X2.heap.size 35 3 (.slice (some ⟨X2.heap.size, 0, none⟩) 0 0) 0 (rvs []) := World.ownsRow_lit (base := X2.heap.size) (e := 35) (size := 3) X2 #[] 0 (Nat.le_refl _) (by unfold maxLen; omega) rfl
      have HLIT := Lib.hid hLit
      have HL0 : Hid (∀ w', Below X2.heap.size X2 w' → Lq w' A vs rs ∧ (∀ j u, (rvs rs)[j]? = some u → w'.cell? ⟨b, o + j, none⟩ = some u)) := fun w' hb => ⟨HL.out w' (HBX.out.trans (hb.mono HBX.out.size)), HC.out w' (HBX.out.trans (hb.mono HBX.out.size))⟩
      have KX0 : Hid (∀ w', Below X2.heap.size X2 w' → w'.cell? ⟨g1, 0, none⟩ = some (.bool s) ∧ w'.cell? ⟨g1, 1, none⟩ = some (.slice ao n0 ca0) ∧ w'.cell? ⟨g1, 2, none⟩ = some (.slice bo m0 cb) ∧ CQ 0 w' s ao n0 ca0 bo m0 cb (fq v A) 2) := fun w' hb => by
        obtain ⟨j0, j1, j2⟩ := KX1.out w' (HBX.out.trans (hb.mono HBX.out.size))
        exact ⟨j0, j1, j2, QX.out w' (HBX.out.trans (hb.mono HBX.out.size))⟩
      have nA0 := below_new X2 (.cells #[] 35)
      have NA0 := Lib.hid nA0
      have hin : i ≤ i := by omega
      have hrt : (rvs (rs.take i)).length = i * 3 := by rw [rvs_length, List.length_take, HRL.out]; omega
      have HRT := Lib.hid hrt
      clear hgR hLit nA0 hrt
      go_upto_region 7 with (at_builtin; refine wpList_append_own _ rfl _ _ 38 rfl X2.heap.size 35 r0 (.agg #[.bool false, .slice none 0 0, .slice none 0 0]) 3 56 Tryz.underlying38 HRI.out.1 HRI.out.2.1 HRI.out.2.2.1 HRI.out.2.2.2 rfl (by omega) _ 0 (rvs []) rfl HLIT.out ⟨b, o, none⟩ i c (rvs (rs.take i)) rfl HRT.out (by intro j u hj; rw [rvs_tk] at hj; rw [Addr.add_lit]; exact (HL0.out _ NA0.out).2 j u (by rw [List.getElem?_take] at hj; split at hj; exact hj; cases hj)) (rvs_one _) (by unfold maxLen; omega) (by omega) (by simp) ?_; intro v6 w6 hown6 hgr6 _; rw [Nat.zero_add] at hown6; obtain ⟨a6, c6, rfl⟩ := row_n hown6; have HO6 := Lib.hid hown6; have HG6 := Lib.hid hgr6; clear hown6 hgr6)
      have HB6 : Hid (Below X2.heap.size X2 w6) := NA0.out.grown HG6.out (by simp) (fun k e => (HLIT.out.lt k e).1)
      have HW6 : Hid (w6.ownsRow X2.heap.size 35 3 (.slice a6 i c6) i (rvs (rs.take i))) := HO6.out
      have hs6 : Hid (X2.heap.size ≤ w6.heap.size) := HB6.out.size
      obtain ⟨j0, j1, j2, _⟩ := KX0.out w6 HB6.out
      clear HO6 HG6
      go_upto_region 8 with (at_builtin; refine wpList_append_own _ rfl _ _ 38 rfl X2.heap.size 35 r0 (.agg #[.bool false, .slice none 0 0, .slice none 0 0]) 3 56 Tryz.underlying38 HRI.out.1 HRI.out.2.1 HRI.out.2.2.1 HRI.out.2.2.2 rfl (by omega) _ _ _ rfl (HW6.out.alloc _) ⟨w6.heap.size, 0, none⟩ 1 1 [.bool s, .slice ao n0 ca0, .slice bo m0 cb] rfl rfl (three_cell _ _ _ _ _) (by intro u hu; simp at hu; rcases hu with rfl | rfl | rfl <;> rfl) (by unfold maxLen; omega) (by omega) (by have := hs6.out; simp; omega) ?_; intro v7 w7 hown7 hgr7 _; obtain ⟨a7, c7, rfl⟩ := row_n hown7; have HO7 := Lib.hid hown7; have HG7 := Lib.hid hgr7; clear hown7 hgr7)
      have HB7 : Hid (Below X2.heap.size X2 w7) := (HB6.out.trans ((below_new w6 _).mono hs6.out)).grown HG7.out (by have := hs6.out; simp; omega) (fun k e => (HW6.out.lt k e).1)
      have HW7 : Hid (w7.ownsRow X2.heap.size 35 3 (.slice a7 (i + 1) c7) (i + 1) (rvs (rs.take i ++ [⟨s, ao, n0, ca0, bo, m0, cb⟩]))) := by unfold Hid; rw [rvs_append]; exact HO7.out
      have hs7 : Hid (X2.heap.size ≤ w7.heap.size) := HB7.out.size
      clear HO7 HG7 j0 j1 j2 HW6 HB6 hs6
      have hrd : (rvs (rs.drop i)).length = 0 * 3 := by rw [rvs_length, List.length_drop, HRL.out, Nat.sub_self]
      have HRD := Lib.hid hrd
      have hci : (c : Int) - (i : Int) = ((c - i : Nat) : Int) := by omega
      have hicc : i ≤ c := by omega
      clear hrd
      by_cases hic : i < c
      · have hic2 : (i : Int) < (c : Int) := by omega
        go_wp2_with (at_builtin; refine wpList_append_own _ rfl _ _ 38 rfl X2.heap.size 35 r0 (.agg #[.bool false, .slice none 0 0, .slice none 0 0]) 3 56 Tryz.underlying38 HRI.out.1 HRI.out.2.1 HRI.out.2.2.1 HRI.out.2.2.2 rfl (by omega) _ _ _ rfl HW7.out ⟨b, o + i * 3, none⟩ 0 (c - i) (rvs (rs.drop i)) rfl HRD.out (by intro j u hj; have := (List.getElem?_eq_some_iff.1 hj).1; have := HRD.out; omega) (rvs_one _) (by unfold maxLen; omega) (by omega) (by have := hs7.out; omega) ?_; intro v8 w8 hown8 hgr8 _; rw [Nat.add_zero] at hown8; obtain ⟨a8, c8, rfl⟩ := row_n hown8; have HO8 := Lib.hid hown8; have HG8 := Lib.hid hgr8; clear hown8 hgr8)
        all_goals
          have HB8 : Hid (Below X2.heap.size X2 w8) := HB7.out.grown HG8.out hs7.out (fun k e => (HW7.out.lt k e).1)
          have hl7 : Lq w7 A (vs.take i ++ [v]) (rs.take i ++ [⟨s, ao, n0, ca0, bo, m0, cb⟩]) := ((HL0.out w7 HB7.out).1.take i).app (Lq.one (KX0.out w7 HB7.out).2.2.2)
          have hl8 : Lq w8 A ((vs.take i ++ [v]) ++ vs.drop i) ((rs.take i ++ [⟨s, ao, n0, ca0, bo, m0, cb⟩]) ++ rs.drop i) := (hl7.keep HW7.out HG8.out).app ((HL0.out w8 HB8.out).1.drop i)
          have FIN : Hid (PutP vs A v i w w8 a8 (i + 1) c8) := by
            have hrow : w8.ownsRow X2.heap.size 35 3 (.slice a8 (i + 1) c8) (i + 1) (rvs ((rs.take i ++ [⟨s, ao, n0, ca0, bo, m0, cb⟩]) ++ rs.drop i)) := by rw [rvs_app]; exact HO8.out
            obtain ⟨ra, rc, e, hrd⟩ := RdR.of_row hrow
            simp only [Value.slice.injEq] at e
            obtain ⟨rfl, _, rfl⟩ := e
            have hus : (vs.take i ++ [v]) ++ vs.drop i = vs.take i ++ v :: vs.drop i := by simp
            rw [hus] at hl8
            have hln : (vs.take i ++ v :: vs.drop i).length = i + 1 := by
              rw [List.length_append, List.length_cons, List.length_take, List.length_drop, ← HVN.out]
              omega
            exact ⟨vs.take i ++ v :: vs.drop i, hln.symm, ins_up HUP.out (HLO.out) (HHI.out), fun y => ins_mem i v y, by omega, ⟨_, by rw [hl8.len, hln], hrd, by rw [← hln]; exact hl8⟩, HBW.out.trans ((HBX.out.trans (HB8.out.mono HBX.out.size)).mono HBW.out.size)⟩
          clear HB8 hl7 hl8 HO8 HG8 HB7 HW7
          go_wp2_with fail
          go_ret
          exact ⟨a8, _, c8, rfl, FIN.out⟩
      · obtain rfl : i = c := by omega
        go_wp2_with (at_builtin; refine wpList_append_own _ rfl _ _ 38 rfl X2.heap.size 35 r0 (.agg #[.bool false, .slice none 0 0, .slice none 0 0]) 3 56 Tryz.underlying38 HRI.out.1 HRI.out.2.1 HRI.out.2.2.1 HRI.out.2.2.2 rfl (by omega) _ _ _ rfl HW7.out ⟨b, o, none⟩ 0 0 (rvs (rs.drop i)) rfl HRD.out (by intro j u hj; have := (List.getElem?_eq_some_iff.1 hj).1; have := HRD.out; omega) (rvs_one _) (by unfold maxLen; omega) (by omega) (by have := hs7.out; omega) ?_; intro v8 w8 hown8 hgr8 _; rw [Nat.add_zero] at hown8; obtain ⟨a8, c8, rfl⟩ := row_n hown8; have HO8 := Lib.hid hown8; have HG8 := Lib.hid hgr8; clear hown8 hgr8)
        all_goals
          have HB8 : Hid (Below X2.heap.size X2 w8) := HB7.out.grown HG8.out hs7.out (fun k e => (HW7.out.lt k e).1)
          have hl7 : Lq w7 A (vs.take i ++ [v]) (rs.take i ++ [⟨s, ao, n0, ca0, bo, m0, cb⟩]) := ((HL0.out w7 HB7.out).1.take i).app (Lq.one (KX0.out w7 HB7.out).2.2.2)
          have hl8 : Lq w8 A ((vs.take i ++ [v]) ++ vs.drop i) ((rs.take i ++ [⟨s, ao, n0, ca0, bo, m0, cb⟩]) ++ rs.drop i) := (hl7.keep HW7.out HG8.out).app ((HL0.out w8 HB8.out).1.drop i)
          have FIN : Hid (PutP vs A v i w w8 a8 (i + 1) c8) := by
            have hrow : w8.ownsRow X2.heap.size 35 3 (.slice a8 (i + 1) c8) (i + 1) (rvs ((rs.take i ++ [⟨s, ao, n0, ca0, bo, m0, cb⟩]) ++ rs.drop i)) := by rw [rvs_app]; exact HO8.out
            obtain ⟨ra, rc, e, hrd⟩ := RdR.of_row hrow
            simp only [Value.slice.injEq] at e
            obtain ⟨rfl, _, rfl⟩ := e
            have hus : (vs.take i ++ [v]) ++ vs.drop i = vs.take i ++ v :: vs.drop i := by simp
            rw [hus] at hl8
            have hln : (vs.take i ++ v :: vs.drop i).length = i + 1 := by
              rw [List.length_append, List.length_cons, List.length_take, List.length_drop, ← HVN.out]
              omega
            exact ⟨vs.take i ++ v :: vs.drop i, hln.symm, ins_up HUP.out (HLO.out) (HHI.out), fun y => ins_mem i v y, by omega, ⟨_, by rw [hl8.len, hln], hrd, by rw [← hln]; exact hl8⟩, HBW.out.trans ((HBX.out.trans (HB8.out.mono HBX.out.size)).mono HBW.out.size)⟩
          clear HB8 hl7 hl8 HO8 HG8 HB7 HW7
          go_wp2_with fail
          go_ret
          exact ⟨a8, _, c8, rfl, FIN.out⟩
end Go.Proofs.YtmhjimcdiglpcaaGreat.Dr
/- The reference's Breaks. -/
namespace Go.Proofs.YtmhjimcdiglpcaaGreat.Dr
open Go.RowKit Go.Sort C6

theorem fq_frac {p A : Int} (hA : 1 ≤ A) (hp : 0 ≤ p) : fq p A - fq (p / A) 1 = fq (p % A) A := by
  have h1 := Int.ediv_nonneg hp (show 0 ≤ A by omega)
  have h2 := Int.emod_nonneg p (show A ≠ 0 by omega)
  have h3 := Int.mul_ediv_add_emod p A
  have hA' : (A : Rat) ≠ 0 := by
    have : ((0 : Int) : Rat) < (A : Rat) := Rat.intCast_lt_intCast.2 (by omega)
    intro h
    rw [h] at this
    exact absurd this (by decide)
  obtain ⟨q, hq⟩ : ∃ q, q = p / A := ⟨_, rfl⟩
  obtain ⟨r, hr⟩ : ∃ r, r = p % A := ⟨_, rfl⟩
  rw [← hq] at h1 h3 ⊢
  rw [← hr] at h2 h3 ⊢
  rw [fq_div (by omega) hp, fq_div (by omega) h1, fq_div (by omega) h2, ← h3, Rat.intCast_add, Rat.intCast_mul]
  have e1 : ((1 : Int) : Rat) = 1 := rfl
  rw [e1, Rat.div_def, Rat.div_def, Rat.div_def]
  grind

set_option maxHeartbeats 4000000 in
set_option maxRecDepth 100000 in
theorem rBreaks_bad (xs : List Int) (n : Int) (ao : Option Addr) (cap : Nat) (w : World) (h19 : xs.length ≤ 19) (hr : RdZ w ao cap xs) (hE : drE xs n ≠ 0) :
    Calls Tryz.prog 16 #[.slice ao xs.length cap, .int .i64 n] w fun e w' => e = .returned (.tuple #[.slice none 0 0, .int .i64 (drE xs n)]) ∧ Below w.heap.size w w' := by
  have CK := Lib.hid (checked_v xs n ao cap w h19 hr)
  obtain ⟨E, hEE⟩ : ∃ E, E = drE xs n := ⟨_, rfl⟩
  obtain ⟨N, hN⟩ : ∃ N, N = xs.length := ⟨_, rfl⟩
  unfold Hid at CK
  rw [← hEE] at CK hE ⊢
  rw [← hN] at CK ⊢
  have CK := Lib.hid CK
  have hEb : (E != 0) = true := bne_iff_ne.2 hE
  clear hEE hE hN hr h19
  go_enter Tryz.func16, Tryz.ntmps16
  go_wp2_with fail
  refine CK.out.mono ?_; rintro e w2 ⟨rfl, rfl⟩
  go_wp2_with fail
  refine bodyPost_ret (v := .tuple #[.slice none 0 0, .int .i64 E]) (by simp [results, Tryz.results16, go_sem]) rfl ?_
  exact ⟨rfl, Below.refl _ _⟩

set_option maxHeartbeats 16000000 in
set_option maxRecDepth 100000 in
theorem rBreaks_ok (xs : List Int) (od : List Nat) (m K : Nat) (ao : Option Addr) (cap : Nat) (w : World) (hv : szs xs = true) (h19 : xs.length ≤ 19) (hm : m ≤ xs.length) (ho : Ord xs.length (fx xs) od) (hK : Cert xs.length (fx xs) od m K) (hr : RdZ w ao cap xs) (hE : drE xs (m : Int) = 0) :
    Calls Tryz.prog 16 #[.slice ao xs.length cap, .int .i64 (m : Int)] w fun e w' => ∃ a c L, e = .returned (.tuple #[.slice a L c, .int .i64 0]) ∧ L = (bks (fx xs) od m K xs.length).length ∧ RdN w' a c L (brkQ (fx xs) od m K xs.length) ∧ Below w.heap.size w w' := by
  have CK := Lib.hid (checked_v xs (m : Int) ao cap w h19 hr)
  have CT := Lib.hid (certain_v xs od m K ao cap w hv h19 hm ho hK hr)
  have hx0 : ∀ i, i < xs.length → 1 ≤ fx xs i ∧ fx xs i ≤ 1099511627776 := fun i hi => szs_at hv hi
  have hKm := hK.K_le ho hx0
  have hKN := hK.le
  obtain ⟨M0, hM0⟩ : ∃ M : Int, M = (m : Int) - (K : Int) := ⟨_, rfl⟩
  obtain ⟨A, hA⟩ : ∃ A, A = T (fx xs) od K := ⟨_, rfl⟩
  obtain ⟨A1, hA1⟩ : ∃ A, A = itv (fx xs) od K := ⟨_, rfl⟩
  have HTA : Hid (∀ u, u < xs.length → ¬ u ∈ od.take K → 1 ≤ A ∧ A1 = A ∧ A ≤ 4611686018427387904) := fun u hu hn => by
    have h1 := K_lt ho hu hn
    have h2 := A_pos ho hx0 h1
    have h3 := itv_eq ho hx0 h1
    have h4 := (T_bd ho hx0 (xs.length - K) K (by omega)).2
    rw [hA, hA1]
    exact ⟨h2, h3, by omega⟩
  have hA1p : 1 ≤ A1 := by rw [hA1]; exact itv_pos _ _ _
  obtain ⟨Q, hQ⟩ : ∃ Q, Q = brkQ (fx xs) od m K xs.length := ⟨_, rfl⟩
  obtain ⟨bs, hbs⟩ : ∃ bs, bs = bks (fx xs) od m K xs.length := ⟨_, rfl⟩
  have HQ : Hid (∀ u, Q u = fq (bs.getD u 0) A1) := fun u => by rw [hQ, hbs, hA1]; rfl
  have HBU : Hid (bs.Pairwise (· < ·)) := by rw [hbs]; exact brk_up _ _
  have HBM : Hid (∀ v, v ∈ bs ↔ v = 0 ∨ ∃ p ∈ (lays (fx xs) (od.take K) M0 xs.length).1, p.2.1 % A = v) := fun v => by rw [hbs, hM0, hA]; exact brk_mem
  obtain ⟨N, hN⟩ : ∃ N, N = xs.length := ⟨_, rfl⟩
  unfold CtPost at CT
  unfold Hid at CK CT HTA HBM
  rw [← hA] at CT
  rw [← hM0] at CT
  rw [hE] at CK
  rw [← hQ, ← hbs]
  rw [← hN] at CK CT HTA HBM h19 hm hKN hx0 ⊢
  have CK := Lib.hid CK
  have CT := Lib.hid CT
  have HTA := Lib.hid HTA
  have hl1 : N ≤ cap := by have := hr.1; rw [intz_length, ← hN] at this; exact this
  have hl2 := hr.2.1
  obtain ⟨x, hxx⟩ : ∃ x, x = fx xs := ⟨_, rfl⟩
  have HX : Hid (∀ i, xs.getD i 0 = x i) := fun i => by rw [hxx]; rfl
  rw [← hxx] at HBM hx0
  have HBM := Lib.hid HBM
  have HXB : Hid (∀ i, i < N → 1 ≤ x i ∧ x i ≤ 1099511627776) := hx0
  have HN := Lib.hid hN
  have HR := Lib.hid hr
  have hMb : 0 ≤ M0 ∧ M0 ≤ 19 := by omega
  have E0 : ((0 : Int) != 0) = false := rfl
  obtain ⟨C, hC⟩ : ∃ C, C = od.take K := ⟨_, rfl⟩
  have HCC := Lib.hid hC
  unfold Hid at HTA HBM
  rw [← hC] at HTA HBM
  have HTA := Lib.hid HTA
  have HBM := Lib.hid HBM
  have LBD : Hid (∀ i, i ≤ N → 0 ≤ (lays x C M0 i).2 ∧ (lays x C M0 i).2 ≤ (i : Int) * 20890720927744) := fun i hi => by have := lays_bd (C := C) hMb HXB.out i hi; exact ⟨this.1, this.2.1⟩
  have LSB : Hid (∀ i, i ≤ N → 0 ≤ lowS x C i ∧ lowS x C i ≤ (i : Int) * 1099511627776) := fun i hi => lowS_bd (C := C) HXB.out i hi
  clear hv hx0 hxx hN hr ho hK hQ hbs hM0 hA hA1 hE hKm hC
  go_enter Tryz.func16, Tryz.ntmps16
  go_wp2_with fail
  refine CK.out.mono ?_; rintro e w2 ⟨rfl, rfl⟩
  go_wp2_with fail
  refine CT.out.mono ?_; rintro e W2 ⟨gs, rfl, hown2, b2⟩
  have HS2 : Hid (∀ w', Below W2.heap.size W2 w' → ∀ i, i < N → w'.cell? ⟨gs, i, none⟩ = some (.bool (decide (i ∈ C)))) := fun w' hb i hi => by
    rw [HCC.out]
    have h := (hown2.cellAt i (by omega)).trans (bl_at od K N i hi)
    exact (hb.cell (World.block_lt_of_cell? _ _ h)).trans h
  have HB2 := Lib.hid b2
  have HR2 : Hid (∀ w', Below W2.heap.size W2 w' → RdZ w' ao cap xs) := fun w' hb => HR.out.below (HB2.out.trans (hb.mono HB2.out.size))
  clear hown2 b2 CK CT
  obtain ⟨W3, hW3⟩ : ∃ W, W = W2.alloc (.cells #[.bool false, .slice none 0 0, .slice none 0 0] 35) := ⟨_, rfl⟩
  obtain ⟨g3, hg3⟩ : ∃ g, g = W2.heap.size := ⟨_, rfl⟩
  have hrow3 : W3.ownsRow W2.heap.size 35 3 (.slice (some ⟨W2.heap.size, 0, none⟩) 1 1) 1 (rvs [RV.nil]) := by rw [hW3]; exact World.ownsRow_lit (base := W2.heap.size) (e := 35) (size := 3) W2 #[.bool false, .slice none 0 0, .slice none 0 0] 1 (Nat.le_refl _) (by unfold maxLen; omega) rfl
  have HRD3 : Hid (RdN W3 (some ⟨g3, 0, none⟩) 1 1 (fun j => fq (([0] : List Int).getD j 0) A1)) := by
    obtain ⟨ra, rc, e, hrd⟩ := RdR.of_row hrow3
    simp only [Value.slice.injEq] at e
    obtain ⟨rfl, _, rfl⟩ := e
    refine ⟨[RV.nil], rfl, by rw [hg3]; exact hrd, rfl, fun u hu q hq => ?_⟩
    obtain rfl : u = 0 := by omega
    replace hq : some (fq 0 A1) = some q := hq
    rw [fq_zero hA1p] at hq
    obtain rfl : 0 = q := Option.some.inj hq
    exact cq_zero 0 _ 2 (by omega) (by omega)
  have HB3 : Hid (Below W2.heap.size W2 W3) := by rw [hW3]; exact below_new _ _
  clear hrow3
  go_upto_region 7 with fail
  rw [← hW3]
  try rw [← hg3]
  clear hW3 hg3
  go_wp2_with fail
  go_loopw [32, 10, 11] (fun s32 s10 s11 wr => ∃ (i : Nat) (a : Option Addr) (n c : Nat) (us : List Int) (lw : Int), i ≤ N ∧ s32 = .int .i64 (i : Int) ∧ s10 = .slice a n c ∧ s11 = .int .i64 lw ∧ Hid (lw = lowS x C i) ∧ Hid (n = us.length) ∧ Hid (us.Pairwise (· < ·)) ∧ Hid (∀ y, y ∈ us ↔ y = 0 ∨ ∃ p ∈ (lays x C M0 i).1, p.2.1 % A = y) ∧ n ≤ i + 1 ∧ Hid (RdN wr a c n (fun j => fq (us.getD j 0) A1)) ∧ Hid (Below W2.heap.size W2 wr)) (fun s32 _ _ _ => N - (intOf s32).toNat)
  case atStart => exact ⟨0, _, 1, 1, [0], 0, by omega, rfl, rfl, rfl, (lowS_zero x C).symm, rfl, List.pairwise_singleton _ _, fun y => by simp [lays], by omega, HRD3, HB3⟩
  case round =>
    obtain ⟨i, a, n, c, us, lw, hiN, rfl, rfl, rfl, hlw, hnn, hup, hmem, hni, hrdn, hbl⟩ := hrel
    by_cases hlt : i < N
    · have hlt2 : (i : Int) < (N : Int) := by omega
      obtain ⟨b, f0, rfl, kx⟩ := (HR2.out _ hbl.out).atZ (show i < xs.length by rw [← HN.out]; exact hlt)
      obtain ⟨X, hX⟩ : ∃ X, X = x i := ⟨_, rfl⟩
      have hXb : 1 ≤ X ∧ X ≤ 1099511627776 := by rw [hX]; exact HXB.out i hlt
      rw [HX.out i, ← hX] at kx
      have ks := HS2.out wr hbl.out i hlt
      have HXI := Lib.hid hX
      clear hX
      by_cases hin : i ∈ C
      · rw [decide_eq_true hin] at ks
        have hlw1 : Hid (lw = lowS x C (i + 1)) := by unfold Hid; rw [lowS_succ, if_pos hin, ← hlw.out]; omega
        have hmem1 : Hid (∀ y, y ∈ us ↔ y = 0 ∨ ∃ p ∈ (lays x C M0 (i + 1)).1, p.2.1 % A = y) := by rw [lays_in hin]; exact hmem.out
        clear hin hlw hmem
        go_wp2_with fail
        go_roundw
        case rel => exact ⟨i + 1, a, n, c, us, lw, by omega, by go_num, rfl, rfl, hlw1, hnn, hup, hmem1, by omega, hrdn, hbl⟩
        case measure => simp [intOf]; omega
      · rw [decide_eq_false hin] at ks
        obtain ⟨hAp, hAA, hAu⟩ := HTA.out i (by omega) hin
        obtain ⟨P, hP⟩ : ∃ P, P = (lays x C M0 i).2 := ⟨_, rfl⟩
        have hPP : lw * M0 = P := by rw [hP, lowS_lays, hlw.out]
        have hPb := LBD.out i hiN
        rw [← hP] at hPb
        have hPw : IntKind.i64.wrap P = P := IntWalk.i64_in _ (by omega)
        have RT := Lib.hid (ratio_v P A (by omega) (by omega) (by omega) (by omega) wr)
        obtain ⟨rr, hrr⟩ : ∃ r, r = P % A := ⟨_, rfl⟩
        have hr0 : 0 ≤ rr := by rw [hrr]; exact Int.emod_nonneg _ (by omega)
        have hr1 : rr < A := by rw [hrr]; exact Int.emod_lt_of_pos _ (by omega)
        have hfr : fq P A - fq (P / A) 1 = fq rr A := by rw [hrr]; exact fq_frac hAp (by omega)
        obtain ⟨L1, hL1⟩ : ∃ L, L = lw + X := ⟨_, rfl⟩
        have hlw1 : Hid (L1 = lowS x C (i + 1)) := by unfold Hid; rw [lowS_succ, if_neg hin, ← hlw.out, hL1, HXI.out]
        have hLb := LSB.out (i + 1) (by omega)
        rw [← hlw1.out] at hLb
        have hLw : IntKind.i64.wrap L1 = L1 := IntWalk.i64_in _ (by omega)
        have hLL : lw + X = L1 := hL1.symm
        have hmem0 : Hid (∀ us' : List Int, (∀ y, y ∈ us' ↔ y = rr ∨ y ∈ us) → ∀ y, y ∈ us' ↔ y = 0 ∨ ∃ p ∈ (lays x C M0 (i + 1)).1, p.2.1 % A = y) := fun us' h y => by
          rw [h y, hmem.out y, lays_out hin]
          simp only [List.mem_append, List.mem_singleton]
          constructor
          · rintro (h | h | ⟨p, hp, hpe⟩)
            · exact .inr ⟨(i, (lays x C M0 i).2, (lays x C M0 i).2 + x i * M0), .inr rfl, by rw [h, hrr, hP]⟩
            · exact .inl h
            · exact .inr ⟨p, .inl hp, hpe⟩
          · rintro (h | ⟨p, hp | rfl, hpe⟩)
            · exact .inr (.inl h)
            · exact .inr (.inr ⟨p, hp, hpe⟩)
            · exact .inl (by rw [← hpe, hrr, hP])
        have hubd : Hid (∀ y ∈ us, 0 ≤ y) := fun y hy => by
          rcases (hmem.out y).1 hy with h | ⟨p, _, hpe⟩
          · omega
          · rw [← hpe]; exact Int.emod_nonneg _ (by omega)
        have hn1 : 1 ≤ n := by
          have h0 : (0 : Int) ∈ us := (hmem.out 0).2 (.inl rfl)
          have := List.length_pos_of_mem h0
          have := hnn.out
          omega
        have QS : Hid (Sm (rn (fq rr A)) 2 ∧ Sm (fq rr A).den 2) := fq_sm hAp hAu hr0 (by omega)
        have HRR : Hid (0 ≤ rr ∧ rr < A) := ⟨hr0, hr1⟩
        have HFR := Lib.hid hfr
        have HAA : Hid (1 ≤ A ∧ A1 = A) := ⟨hAp, hAA⟩
        have HPB : Hid (0 ≤ P ∧ P ≤ 4611686018427387904) := ⟨hPb.1, by omega⟩
        clear hP hin hlw hmem hrr hr0 hr1 hfr hL1 hAA hPb
        go_wp2_with fail
        refine RT.out.mono ?_; rintro e w4 ⟨s4, a4, n4, c4, o4, m4, d4, rfl, cq4, b4⟩
        obtain ⟨W5, hW5⟩ : ∃ W, W = w4.alloc (.cells #[.bool s4, .slice a4 n4 c4, .slice o4 m4 d4] 35) := ⟨_, rfl⟩
        obtain ⟨g5, hg5⟩ : ∃ g, g = w4.heap.size := ⟨_, rfl⟩
        have b5 : Below w4.heap.size w4 W5 := by rw [hW5]; exact below_new _ _
        have x5 : W5.heap[g5]? = some (.cells #[.bool s4, .slice a4 n4 c4, .slice o4 m4 d4] 35 (0, 0)) := by rw [hW5, hg5]; exact heap_alloc_new _ _
        have b45 := b4.trans (b5.mono b4.size)
        have HB5 : Hid (Below W2.heap.size W2 W5) := hbl.out.trans (b45.mono hbl.out.size)
        have CQ5 : Hid (∀ w', Below W5.heap.size W5 w' → CQ 0 w' s4 a4 n4 c4 o4 m4 d4 (fq P A) 2) := fun w' hb => (((cq4.below b5).mono (Nat.zero_le _))).below hb
        have HRN5 : Hid (∀ w', Below W5.heap.size W5 w' → RdN w' a c n (fun j => fq (us.getD j 0) A1)) := fun w' hb => (hrdn.out.below b45).below hb
        have KB : Hid (∀ w', Below W5.heap.size W5 w' → w'.cell? ⟨g5, 0, none⟩ = some (.bool s4) ∧ w'.cell? ⟨g5, 1, none⟩ = some (.slice a4 n4 c4) ∧ w'.cell? ⟨g5, 2, none⟩ = some (.slice o4 m4 d4)) := fun w' hb => by
          obtain ⟨k0, k1, k2, _⟩ := at_block (carry x5 hb)
          exact ⟨k0, k1, k2⟩
        have FL : Hid (∀ w', Below W5.heap.size W5 w' → Calls Tryz.prog 40 #[.agg #[.bool s4, .slice a4 n4 c4, .slice o4 m4 d4]] w' (MakesQ (fq (P / A) 1) 2 w')) := fun w' hb => Floor_v _ _ _ _ _ _ _ 2 P A HAA.out.1 HPB.out w' (CQ5.out w' hb).rq
        have SB : Hid (∀ w', Below W5.heap.size W5 w' → ∀ t po n' ca' qo l cb', RQ w' t po n' ca' qo l cb' (fq (P / A) 1) 2 → Calls Tryz.prog 19 #[.agg #[.bool s4, .slice a4 n4 c4, .slice o4 m4 d4], .agg #[.bool t, .slice po n' ca', .slice qo l cb']] w' (MakesQ (fq rr A) (2 + 2 + 1) w')) := fun w' hb t po n' ca' qo l cb' h1 => by
          rw [← HFR.out]
          exact rSub_q _ _ _ _ _ _ _ _ _ _ _ _ _ _ 2 _ _ w' (CQ5.out w' hb).rq h1 (by omega)
        have PU : Hid (∀ w', Below W5.heap.size W5 w' → ∀ t po n' ca' qo l cb', CQ 0 w' t po n' ca' qo l cb' (fq rr A) 2 → Calls Tryz.prog 39 #[.slice a n c, .agg #[.bool t, .slice po n' ca', .slice qo l cb']] w' fun e w'' => ∃ a' n2 c', e = .returned (.slice a' n2 c') ∧ PutP us A1 rr n w' w'' a' n2 c') := fun w' hb t po n' ca' qo l cb' h1 => by
          rw [← HAA.out.2] at h1
          exact put_v us A1 rr a n c t po qo n' ca' l cb' w' (by have := HAA.out; omega) hup.out hnn.out hn1 (by omega) (HRN5.out w' hb) hubd.out HRR.out.1 h1
        clear cq4 b4 b5 b45 x5 hbl hrdn kx ks
        go_upto_region 12 with fail
        rw [← hW5]
        try rw [← hg5]
        clear hW5 hg5
        refine wp_region_held_drew (S := fun w' => Below W5.heap.size W5 w') (by kernel_rfl) ((Below.refl _ _).drew) (fun hH => ?_)
        refine wpAnyH_take (i := 0) (v := (.slice a n c)) rfl (by kernel_rfl) (by kernel_rfl) (by kernel_rfl) (fun _ _ _ h => h) (Or.inl ⟨by kernel_rfl, ?_⟩) hH ?_
        · intro w1 hB
          go_simp
        change wpAnyH _ _ _ _ _ _ _ (Act.put _ (some 46) _) _
        try simp only [Act.put, List.setIfInBounds_toArray, List.set_cons_zero, List.set_cons_succ]
        refine wpAnyH_take (i := 1) (v := (.agg #[.bool s4, .slice a4 n4 c4, .slice o4 m4 d4])) rfl (by kernel_rfl) (by kernel_rfl) (by kernel_rfl) (fun _ _ _ h => h) (Or.inl ⟨by kernel_rfl, ?_⟩) hH ?_
        · intro w1 hB
          obtain ⟨j0, j1, j2⟩ := KB.out w1 hB
          go_simp
        change wpAnyH _ _ _ _ _ _ _ (Act.put _ (some 47) _) _
        try simp only [Act.put, List.setIfInBounds_toArray, List.set_cons_zero, List.set_cons_succ]
        refine wpAnyH_take (i := 2) (v := (.agg #[.bool s4, .slice a4 n4 c4, .slice o4 m4 d4])) rfl (by kernel_rfl) (by kernel_rfl) (by kernel_rfl) (fun _ _ _ h => h) (Or.inl ⟨by kernel_rfl, ?_⟩) hH ?_
        · intro w1 hB
          obtain ⟨j0, j1, j2⟩ := KB.out w1 hB
          go_simp
        change wpAnyH _ _ _ _ _ _ _ (Act.put _ (some 48) _) _
        try simp only [Act.put, List.setIfInBounds_toArray, List.set_cons_zero, List.set_cons_succ]
        refine wpAnyH_ready (rs := [3]) (by kernel_rfl) (by simp) ?_
        refine AllReadyH.cons rfl (fun K hK => ?_) AllReadyH.nil
        go_simp
        refine (FL.out _ hH).mono ?_
        rintro e V3 ⟨sf, af, nf, cf, of, mf, df, rfl, cqf, v3⟩
        try go_simp
        refine hK.out _ _ (keepB v3 hH (Nat.le_refl _)) (fun hH3 => ?_)
        clear hK K
        try simp only [Act.put, List.setIfInBounds_toArray, List.set_cons_zero, List.set_cons_succ]
        refine wpAnyH_ready (rs := [4]) (by kernel_rfl) (by simp) ?_
        refine AllReadyH.cons rfl (fun K hK => ?_) AllReadyH.nil
        go_simp
        refine (SB.out _ hH3 _ _ _ _ _ _ _ cqf.rq).mono ?_
        rintro e V4 ⟨sg, ag, ng, cg, og, mg, dg, rfl, cqg, v4⟩
        have cqh := cqg.resize QS.out.1 QS.out.2
        try go_simp
        refine hK.out _ _ (keepB v4 hH3 (Nat.le_refl _)) (fun hH4 => ?_)
        clear hK K
        try simp only [Act.put, List.setIfInBounds_toArray, List.set_cons_zero, List.set_cons_succ]
        refine wpAnyH_ready (rs := [5]) (by kernel_rfl) (by simp) ?_
        refine AllReadyH.cons rfl (fun K hK => ?_) AllReadyH.nil
        go_simp
        refine (PU.out _ hH4 _ _ _ _ _ _ _ (cqh.mono (Nat.zero_le _))).mono ?_
        rintro e V5 ⟨ap, np, cp, rfl, us', hn', hup', hmem', hle', hrd', v5⟩
        try go_simp
        refine hK.out _ _ (keepB v5 hH4 (Nat.le_refl _)) (fun hH5 => ?_)
        clear hK K
        try simp only [Act.put, List.setIfInBounds_toArray, List.set_cons_zero, List.set_cons_succ]
        refine wpAnyH_take (i := 6) (v := (.slice ap np cp)) rfl (by kernel_rfl) (by kernel_rfl) (by kernel_rfl) (fun _ _ _ h => h) (Or.inl ⟨by kernel_rfl, ?_⟩) hH5 ?_
        · intro w1 hB
          go_simp
        change wpAnyH _ _ _ _ _ _ _ (Act.put _ (some 10) _) _
        try simp only [Act.put, List.setIfInBounds_toArray, List.set_cons_zero, List.set_cons_succ]
        refine wpAnyH_done (by kernel_rfl) ?_ _
        have BV : Below W5.heap.size W5 V5 := hH5
        have HB6 := Lib.hid (HB5.out.trans (BV.mono HB5.out.size))
        have hmem6 := Lib.hid (hmem0.out us' hmem')
        have HRN6 := Lib.hid hrd'
        have HUP6 := Lib.hid hup'
        have HN6 : Hid (np = us'.length) := hn'
        have hnp : np ≤ i + 1 + 1 := by omega
        clear BV FL SB PU KB CQ5 HRN5 hmem' hrd' hup' hn' hle' hmem0 cqf cqg cqh
        go_wp2_with fail
        go_roundw
        case rel => exact ⟨i + 1, ap, np, cp, us', L1, by omega, by go_num, rfl, rfl, hlw1, HN6, HUP6, hmem6, hnp, HRN6, HB6⟩
        case measure => simp [intOf]; omega
    · obtain rfl : i = N := by omega
      have hlt2 : ¬ (i : Int) < (i : Int) := by omega
      have hus : us = bs := strict_ext hup.out HBU.out (fun v => (hmem.out v).trans (HBM.out v).symm)
      have FIN : Hid (n = bs.length ∧ RdN wr a c n Q ∧ Below w2.heap.size w2 wr) := by
        refine ⟨by rw [← hus]; exact hnn.out, ?_, HB2.out.trans (hbl.out.mono HB2.out.size)⟩
        have := hrdn.out
        rw [hus] at this
        rwa [show Q = fun j => fq (bs.getD j 0) A1 from funext HQ.out]
      clear hus hnn hup hmem hrdn hbl hlw
      go_wp2_with fail
      refine bodyPost_ret (v := .tuple #[.slice a n c, .int .i64 0]) (by simp [results, Tryz.results16, go_sem]) rfl ?_
      exact ⟨a, c, n, rfl, FIN.out.1, FIN.out.2.1, FIN.out.2.2⟩
end Go.Proofs.YtmhjimcdiglpcaaGreat.Dr
