import Derived.Test.YtdcnkebcpaelpaaGreatDoorRDiv3
import Derived.Test.YtdcnkebcpaelpaaGreatDoorMaths
import Derived.Deep.RegionHeld3
/- Contracts of package rational and of its reference: canonical numbers. -/
namespace Go.Proofs.YtdcnkebcpaelpaaGreatDoor
open Go.RowKit

/-- a slice at ao that reads the limbs of a canonical number, in memory of the call's own -/
def CQ (B : Nat) (w : World) (s : Bool) (ao : Option Addr) (n ca : Nat) (bo : Option Addr) (m cb : Nat) (q : Rat) (k : Nat) : Prop :=
  s = rs q ∧ n = (dig (rn q)).length ∧ m = (dd q.den).length ∧ Fr B w ao ca (dig (rn q)) ∧ Fr B w bo cb (dd q.den) ∧ Sm (rn q) k ∧ Sm q.den k
/-- a struct that stands for the number q -/
def RQ (w : World) (s : Bool) (ao : Option Addr) (n ca : Nat) (bo : Option Addr) (m cb : Nat) (q : Rat) (k : Nat) : Prop :=
  ∃ N D, Num w ao n ca N ∧ Num w bo m cb D ∧ Sm N k ∧ Sm D k ∧ rq s N (dn D) = q ∧ Sm (dn D) k
theorem CQ.below {B : Nat} {w w' : World} {s : Bool} {ao : Option Addr} {n ca : Nat} {bo : Option Addr} {m cb : Nat} {q : Rat} {k : Nat} (h : CQ B w s ao n ca bo m cb q k) (hb : Below w.heap.size w w') : CQ B w' s ao n ca bo m cb q k := by
  obtain ⟨h1, h2, h3, h4, h5, h6⟩ := h
  exact ⟨h1, h2, h3, h4.below hb, h5.below hb, h6⟩
theorem CQ.mono {B B' : Nat} {w : World} {s : Bool} {ao : Option Addr} {n ca : Nat} {bo : Option Addr} {m cb : Nat} {q : Rat} {k : Nat} (h : CQ B w s ao n ca bo m cb q k) (hB : B' ≤ B) : CQ B' w s ao n ca bo m cb q k := by
  obtain ⟨h1, h2, h3, h4, h5, h6⟩ := h
  exact ⟨h1, h2, h3, h4.mono hB, h5.mono hB, h6⟩
theorem RQ.below {w w' : World} {s : Bool} {ao : Option Addr} {n ca : Nat} {bo : Option Addr} {m cb : Nat} {q : Rat} {k : Nat} (h : RQ w s ao n ca bo m cb q k) (hb : Below w.heap.size w w') : RQ w' s ao n ca bo m cb q k := by
  obtain ⟨N, D, h1, h2, h3⟩ := h
  exact ⟨N, D, h1.below hb, h2.below hb, h3⟩
theorem CQ.rq {B : Nat} {w : World} {s : Bool} {ao : Option Addr} {n ca : Nat} {bo : Option Addr} {m cb : Nat} {q : Rat} {k : Nat} (h : CQ B w s ao n ca bo m cb q k) : RQ w s ao n ca bo m cb q k := by
  obtain ⟨rfl, rfl, rfl, h4, h5, h6, h7⟩ := h
  have hd : Sm (val (dd q.den)) k := by
    unfold dd; split
    · exact ⟨pw_pos _, h7.2⟩
    · rw [val_dig]; exact h7
  refine ⟨rn q, val (dd q.den), Num.of_fr h4 h6, ?_, h6, hd, ?_, by rw [val_dd (den_pos q)]; exact h7⟩
  · exact ⟨dd q.den, rfl, h5.rd, rfl, Nat.le_trans (dd_len _) h7.len⟩
  · rw [val_dd (den_pos q)]; exact rq_self q
theorem Sm.up {N k l : Nat} (h : Sm N k) (hkl : k ≤ l) (hl : l ≤ 549755813888) : Sm N l := ⟨Nat.lt_of_lt_of_le h.1 (pw_mono hkl), hl⟩
theorem RQ.up {w : World} {s : Bool} {ao : Option Addr} {n ca : Nat} {bo : Option Addr} {m cb : Nat} {q : Rat} {k l : Nat} (h : RQ w s ao n ca bo m cb q k) (hkl : k ≤ l) (hl : l ≤ 549755813888) : RQ w s ao n ca bo m cb q l := by
  obtain ⟨N, D, h1, h2, h3, h4, h5, h6⟩ := h
  exact ⟨N, D, h1, h2, h3.up hkl hl, h4.up hkl hl, h5, h6.up hkl hl⟩
/-- what a function that makes a number gives -/
def MakesQ (q : Rat) (k : Nat) (w : World) (e : Ending) (w' : World) : Prop := ∃ s ao n ca bo m cb, e = .returned (.agg #[.bool s, .slice ao n ca, .slice bo m cb]) ∧ CQ w.heap.size w' s ao n ca bo m cb q k ∧ Below w.heap.size w w'

theorem bl_one {D : Nat} : bl D = 1 ↔ D = 1 := by
  constructor
  · intro h
    have h1 : D < 2 ^ 1 := bl_le.1 (by omega)
    have h2 : 2 ^ 0 ≤ D := bl_lt.1 (by omega)
    omega
  · intro h; subst h; rfl

set_option maxHeartbeats 1000000 in
set_option maxRecDepth 100000 in
theorem lowest_any (s : Bool) (ao bo : Option Addr) (n ca m cb D : Nat) (w : World) (hb : Num w bo m cb D) (hD : D = 1) :
    Calls Tryz.prog 24 #[.bool s, .slice ao n ca, .slice bo m cb] w fun e w' => e = .returned (.agg #[.bool (s && decide (0 < n)), .slice ao n ca, .slice none 0 0]) ∧ Below w.heap.size w w' := by
  have hbl := Lib.hid (bl_one.2 hD)
  clear hD
  have hb1 := hb.below (below_new w (.cells #[.bool false, .slice none 0 0, .slice none 0 0] 25))
  cases s
  all_goals
    go_enter Tryz.func24, Tryz.ntmps24
    go_wp2_with fail
    refine (Bits_num hb1).mono ?_; rintro e w' ⟨rfl, rfl⟩
    rw [hbl.out]
    go_wp2_with fail
  · refine bodyPost_ret (v := .agg #[.bool false, .slice ao n ca, .slice none 0 0]) (by simp [results, Tryz.results24, go_sem]) rfl ⟨rfl, below_new w _⟩
  · refine bodyPost_ret (v := .agg #[.bool (decide (0 < n)), .slice ao n ca, .slice none 0 0]) (by simp [results, Tryz.results24, go_sem]) rfl ⟨rfl, below_new w _⟩
set_option maxHeartbeats 1000000 in
set_option maxRecDepth 100000 in
theorem lowest_other (s : Bool) (ao bo : Option Addr) (n ca m cb D : Nat) (w : World) (hb : Num w bo m cb D) (hD : D ≠ 1) :
    Calls Tryz.prog 24 #[.bool s, .slice ao n ca, .slice bo m cb] w fun e w' => e = .returned (.agg #[.bool (s && decide (0 < n)), .slice ao n ca, .slice bo m cb]) ∧ Below w.heap.size w w' := by
  obtain ⟨b, hbl⟩ : ∃ b, b = bl D := ⟨_, rfl⟩
  have hb0 : ((b : Int) == 1) = false := beq_eq_false_iff_ne.2 (fun e => hD (bl_one.1 (by omega)))
  have HBL := Lib.hid hbl.symm
  clear hD hbl
  have hb1 := hb.below (below_new w (.cells #[.bool false, .slice none 0 0, .slice none 0 0] 25))
  cases s
  all_goals
    go_enter Tryz.func24, Tryz.ntmps24
    go_wp2_with fail
    refine (Bits_num hb1).mono ?_; rintro e w' ⟨rfl, rfl⟩
    rw [HBL.out]
    go_wp2_with fail
  · refine bodyPost_ret (v := .agg #[.bool false, .slice ao n ca, .slice bo m cb]) (by simp [results, Tryz.results24, go_sem]) rfl ⟨rfl, below_new w _⟩
  · refine bodyPost_ret (v := .agg #[.bool (decide (0 < n)), .slice ao n ca, .slice bo m cb]) (by simp [results, Tryz.results24, go_sem]) rfl ⟨rfl, below_new w _⟩

/-- a struct that the call laid is as it was -/
theorem box3 {w w' : World} {u v x : Value} {t : TypeId} (hb : Below (w.heap.size + 1) (w.alloc (.cells #[u, v, x] t)) w') :
    w'.cell? ⟨w.heap.size, 0, none⟩ = some u ∧ w'.cell? ⟨w.heap.size, 1, none⟩ = some v ∧ w'.cell? ⟨w.heap.size, 2, none⟩ = some x ∧ w'.frozen? ⟨w.heap.size, 0, none⟩ = false ∧ w'.frozen? ⟨w.heap.size, 1, none⟩ = false ∧ w'.frozen? ⟨w.heap.size, 2, none⟩ = false ∧ w.heap.size < w'.heap.size := by
  have h0 := heap_alloc_new w (.cells #[u, v, x] t)
  have h1 := (hb.block w.heap.size (by omega)).trans h0
  have h2 := hb.size
  rw [World.size_alloc] at h2
  refine ⟨?_, ?_, ?_, ?_, ?_, ?_, by omega⟩
  · simp [World.cell?, h1]
  · simp [World.cell?, h1]
  · simp [World.cell?, h1]
  · simp [World.frozen?, h1]
  · simp [World.frozen?, h1]
  · simp [World.frozen?, h1]
theorem Fr.set_at {g : Nat} {w : World} {ao : Option Addr} {cap : Nat} {xs : List Nat} (h : Fr (g + 1) w ao cap xs) (j : Nat) (v : Value) : Fr (g + 1) (w.setCell ⟨g, j, none⟩ v) ao cap xs := by
  obtain ⟨h1, h2, h3, h4⟩ := h
  refine ⟨h1, h2, h3, ?_⟩
  rcases h4 with h | ⟨b, rfl, hb, h⟩
  · exact .inl h
  · exact .inr ⟨b, rfl, hb, h.block (Below.heap_setCell _ _ _ _ (fun e => absurd (show b = g from e) (by omega)))⟩
theorem CQ.set_at {g : Nat} {w : World} {s : Bool} {ao : Option Addr} {n ca : Nat} {bo : Option Addr} {m cb : Nat} {q : Rat} {k : Nat} (h : CQ (g + 1) w s ao n ca bo m cb q k) (j : Nat) (v : Value) : CQ (g + 1) (w.setCell ⟨g, j, none⟩ v) s ao n ca bo m cb q k := by
  obtain ⟨h1, h2, h3, h4, h5, h6⟩ := h
  exact ⟨h1, h2, h3, h4.set_at j v, h5.set_at j v, h6⟩
theorem below3 {B : Nat} {w w' : World} {g : Nat} (h : Below B w w') (hg : B ≤ g) (u v x : Value) : Below B w (((w'.setCell ⟨g, 0, none⟩ u).setCell ⟨g, 1, none⟩ v).setCell ⟨g, 2, none⟩ x) :=
  ((h.setCell hg u).setCell hg v).setCell hg x
/-- the canonical form, from its parts -/
theorem cq_of {B : Nat} {w : World} {s : Bool} {N D k : Nat} {ao : Option Addr} {n ca : Nat} {bo : Option Addr} {m cb : Nat} (hD : 0 < D) (hn : n = (dig (N / Nat.gcd N D)).length) (fn : Fr B w ao ca (dig (N / Nat.gcd N D))) (hm : m = (dd (D / Nat.gcd N D)).length) (fd : Fr B w bo cb (dd (D / Nat.gcd N D))) (sa : Sm N k) (sd : Sm D k) :
    CQ B w (s && decide (0 < n)) ao n ca bo m cb (rq s N D) k := by
  have hlen : decide (0 < n) = decide (0 < N / Nat.gcd N D) := by
    rw [hn]
    by_cases h : 0 < N / Nat.gcd N D
    · rw [decide_eq_true h, decide_eq_true (dig_length_pos h)]
    · rw [decide_eq_false h, decide_eq_false]
      rw [Nat.eq_zero_of_not_pos h]; simp [dig_zero]
  refine ⟨by rw [rs_rq hD, hlen], by rw [rn_rq hD]; exact hn, by rw [rd_rq hD]; exact hm, by rw [rn_rq hD]; exact fn, by rw [rd_rq hD]; exact fd, Sm.of_le sa (rq_le hD).1, Sm.of_le sd (rq_le hD).2⟩

set_option maxHeartbeats 2000000 in
set_option maxRecDepth 100000 in
theorem reduced_any (s : Bool) (ao bo : Option Addr) (n ca m cb N D k : Nat) (w : World) (ha : Num w ao n ca N) (hb : Num w bo m cb D) (hD : 0 < D) (sa : Sm N k) (sd : Sm D k) :
    Calls Tryz.prog 18 #[.bool s, .slice ao n ca, .slice bo m cb] w (MakesQ (rq s N D) k w) := by
  have B0 := below_new w (.cells #[.bool false, .slice none 0 0, .slice none 0 0] 25)
  have B1 : Below (w.heap.size + 1) (w.alloc (.cells #[.bool false, .slice none 0 0, .slice none 0 0] 25)) (w.alloc (.cells #[.bool false, .slice none 0 0, .slice none 0 0] 25)) := Below.refl _ _
  have hs1 : (w.alloc (.cells #[.bool false, .slice none 0 0, .slice none 0 0] 25)).heap.size = w.heap.size + 1 := World.size_alloc _ _
  have ha1 := ha.below B0
  have hb1 := hb.below B0
  have hg : 0 < Nat.gcd N D := Nat.gcd_pos_of_pos_right _ hD
  have sg : Sm (Nat.gcd N D) k := Sm.of_le sd (Nat.gcd_le_right _ hD)
  have sq : Sm (D / Nat.gcd N D) k := Sm.of_le sd (Nat.div_le_self _ _)
  have HD := Lib.hid hD
  have HG := Lib.hid hg
  obtain ⟨Q, hQ⟩ : ∃ Q, Q = D / Nat.gcd N D := ⟨_, rfl⟩
  have HQ := Lib.hid hQ
  rw [← hQ] at sq
  clear hD hg hQ ha hb
  go_enter Tryz.func18, Tryz.ntmps18
  go_wp2_with fail
  refine (GCD_num ha1 hb1).mono ?_; rintro e w2 ⟨a2, c2, rfl, f2, b2⟩
  rw [hs1] at f2 b2
  replace ha1 := ha1.below (hs1.symm ▸ b2)
  replace hb1 := hb1.below (hs1.symm ▸ b2)
  replace B1 := B1.trans b2
  have ng := Num.of_fr f2 sg
  go_wp2_with fail
  refine (Divide_numD ha1 ng HG.out rfl rfl).mono ?_; rintro e w3 ⟨qo, qc, ro, rc, rfl, fq, fr, b3⟩
  have hz2 := B1.size
  rw [hs1] at hz2
  replace hb1 := hb1.below b3
  replace ng := ng.below b3
  replace B1 := B1.trans (b3.mono hz2)
  have fq' := fq.mono hz2
  go_wp2_with fail
  refine (Divide_numD hb1 ng HG.out HQ.out.symm rfl).mono ?_; rintro e w4 ⟨po, pc, ro2, rc2, rfl, fp, fr2, b4⟩
  have hz3 := B1.size
  rw [hs1] at hz3
  replace B1 := B1.trans (b4.mono hz3)
  replace fq' := fq'.below b4
  have fp' := fp.mono hz3
  have np := Num.of_fr fp sq
  clear ha1 hb1 ng fq fr fr2 f2 b2 b3 b4 fp
  go_wp2_with fail
  by_cases h1 : Q = 1
  · refine (lowest_any s _ _ _ _ _ _ _ _ np h1).mono ?_; rintro e w5 ⟨rfl, b5⟩
    have hz4 := B1.size
    rw [hs1] at hz4
    replace B1 := B1.trans (b5.mono hz4)
    replace fq' := fq'.below b5
    obtain ⟨q0, q1, q2, z0, z1, z2, _⟩ := box3 B1
    have BF := B0.trans (B1.mono (by omega))
    have hcq := cq_of (s := s) (m := 0) HD.out rfl fq' (by rw [← HQ.out, h1]; rfl) (show Fr (w.heap.size + 1) w5 none 0 (dd (D / Nat.gcd N D)) by rw [← HQ.out, h1]; exact Fr.nil _ _) sa sd
    clear h1 np
    go_wp2_with fail
    refine bodyPost_ret (v := .agg #[.bool (s && decide (0 < (dig (N / Nat.gcd N D)).length)), .slice qo (dig (N / Nat.gcd N D)).length qc, .slice none 0 0]) (by simp [results, Tryz.results18, go_sem, q0, q1, q2]) rfl ?_
    exact ⟨_, _, _, _, _, _, _, rfl, (((hcq.set_at _ _).set_at _ _).set_at _ _).mono (by omega), below3 BF (Nat.le_refl _) _ _ _⟩
  · refine (lowest_other s _ _ _ _ _ _ _ _ np h1).mono ?_; rintro e w5 ⟨rfl, b5⟩
    have hz4 := B1.size
    rw [hs1] at hz4
    replace B1 := B1.trans (b5.mono hz4)
    replace fq' := fq'.below b5
    replace fp' := fp'.below b5
    obtain ⟨q0, q1, q2, z0, z1, z2, _⟩ := box3 B1
    have BF := B0.trans (B1.mono (by omega))
    have hcq := cq_of (s := s) (m := (dig Q).length) HD.out rfl fq' (by rw [← HQ.out, dd_of h1]) (show Fr (w.heap.size + 1) w5 po pc (dd (D / Nat.gcd N D)) by rw [← HQ.out, dd_of h1]; exact fp') sa sd
    clear h1 np
    go_wp2_with fail
    refine bodyPost_ret (v := .agg #[.bool (s && decide (0 < (dig (N / Nat.gcd N D)).length)), .slice qo (dig (N / Nat.gcd N D)).length qc, .slice po (dig Q).length pc]) (by simp [results, Tryz.results18, go_sem, q0, q1, q2]) rfl ?_
    exact ⟨_, _, _, _, _, _, _, rfl, (((hcq.set_at _ _).set_at _ _).set_at _ _).mono (by omega), below3 BF (Nat.le_refl _) _ _ _⟩
end Go.Proofs.YtdcnkebcpaelpaaGreatDoor
/- Contracts of package rational and of its reference: denominators, and the reference's canonical form. -/
namespace Go.Proofs.YtdcnkebcpaelpaaGreatDoor
open Go.RowKit

theorem fr_one (w : World) : Fr w.heap.size (w.alloc (.cells #[.int .u32 1] 35)) (some ⟨w.heap.size, 0, none⟩) 1 (dig 1) :=
  Fr.of_own (Own.new w [1]) (lims_cons (by omega) lims_nil) (Nat.le_refl _) 1 (by simp) (by omega)
theorem dig_len_zero {D : Nat} : (((dig D).length : Nat) : Int) == 0 ↔ D = 0 := by
  rw [beq_iff_eq]
  constructor
  · intro h; exact zero_of_len (by omega)
  · intro h; subst h; rfl

set_option maxHeartbeats 1000000 in
set_option maxRecDepth 100000 in
theorem rden_num (s : Bool) (ao bo : Option Addr) (n ca m cb D : Nat) (w : World) (hb : Num w bo m cb D) :
    Calls Tryz.prog 31 #[.agg #[.bool s, .slice ao n ca, .slice bo m cb]] w (Makes (dn D) w) := by
  have B0 := below_new w (.cells #[.bool s, .slice ao n ca, .slice bo m cb] 25)
  have hb1 := hb.below B0
  have hs1 : (w.alloc (.cells #[.bool s, .slice ao n ca, .slice bo m cb] 25)).heap.size = w.heap.size + 1 := World.size_alloc _ _
  clear hb
  rcases Nat.eq_zero_or_pos D with h0 | h0
  · subst h0
    go_enter Tryz.func31, Tryz.ntmps31
    go_wp2_with fail
    refine (rTrim_num hb1).mono ?_; rintro e w2 ⟨a2, c2, rfl, f2, b2⟩
    rw [hs1] at b2
    have B := B0.trans (b2.mono (by omega))
    rw [dig0]
    clear f2 b2
    go_wp2_with fail
    go_ret
    exact ⟨_, 1, rfl, (fr_one w2).mono B.size, B.trans ((below_new w2 _).mono B.size)⟩
  · have hd : ((((dig D).length : Nat) : Int) == 0) = false := by rw [beq_eq_false_iff_ne]; intro h; have := dig_len_zero.1 (beq_iff_eq.2 h); omega
    have hdn := Lib.hid (dn_of h0)
    clear h0
    go_enter Tryz.func31, Tryz.ntmps31
    go_wp2_with fail
    refine (rTrim_num hb1).mono ?_; rintro e w2 ⟨a2, c2, rfl, f2, b2⟩
    rw [hs1] at b2 f2
    have B := B0.trans (b2.mono (by omega))
    go_wp2_with fail
    go_ret
    refine ⟨a2, c2, ?_, ?_, B⟩
    · rw [hdn.out]; rfl
    · rw [hdn.out]; exact f2.mono (by omega)

/-- what denominator gives -/
def GivesDen (D : Nat) (w : World) (e : Ending) (w' : World) : Prop := ∃ ao n ca, e = .returned (.slice ao n ca) ∧ Num w' ao n ca (dn D) ∧ Below w.heap.size w w'
set_option maxHeartbeats 1000000 in
set_option maxRecDepth 100000 in
theorem denominator_num (s : Bool) (ao bo : Option Addr) (n ca m cb D : Nat) (w : World) (hb : Num w bo m cb D) :
    Calls Tryz.prog 20 #[.agg #[.bool s, .slice ao n ca, .slice bo m cb]] w (GivesDen D w) := by
  have B0 := below_new w (.cells #[.bool s, .slice ao n ca, .slice bo m cb] 25)
  have hb1 := hb.below B0
  have hs1 : (w.alloc (.cells #[.bool s, .slice ao n ca, .slice bo m cb] 25)).heap.size = w.heap.size + 1 := World.size_alloc _ _
  clear hb
  rcases Nat.eq_zero_or_pos D with h0 | h0
  · have hbl := Lib.hid (show bl D = 0 by rw [h0]; rfl)
    have hdn := Lib.hid (show dn D = 1 by rw [h0]; rfl)
    clear h0
    go_enter Tryz.func20, Tryz.ntmps20
    go_wp2_with fail
    refine (Bits_num hb1).mono ?_; rintro e w' ⟨rfl, rfl⟩
    rw [hbl.out]
    go_wp2_with fail
    refine (FromUint_any 1 (by omega) (by omega) _).mono ?_; rintro e w2 ⟨a2, c2, rfl, f2, b2⟩
    rw [hs1] at b2 f2
    go_wp2_with fail
    go_ret
    refine ⟨a2, _, c2, rfl, ?_, B0.trans (b2.mono (by omega))⟩
    rw [hdn.out]
    exact Num.of_fr f2 (show Sm 1 1 from ⟨by simp [pw], by omega⟩)
  · have hdn := Lib.hid (dn_of h0)
    obtain ⟨b, hbl⟩ : ∃ b, b = bl D := ⟨_, rfl⟩
    have hbp := bl_pos h0
    have hd : ((b : Int) == 0) = false := beq_eq_false_iff_ne.2 (by omega)
    have HBL := Lib.hid hbl.symm
    clear h0 hbl hbp
    go_enter Tryz.func20, Tryz.ntmps20
    go_wp2_with fail
    refine (Bits_num hb1).mono ?_; rintro e w' ⟨rfl, rfl⟩
    rw [HBL.out]
    go_wp2_with fail
    go_ret
    refine ⟨bo, m, cb, rfl, ?_, B0⟩
    rw [hdn.out]; exact hb1

set_option maxHeartbeats 4000000 in
set_option maxRecDepth 100000 in
theorem made_any (s : Bool) (ao bo : Option Addr) (n ca m cb N D k : Nat) (w : World) (ha : Num w ao n ca N) (hb : Num w bo m cb D) (hD : 0 < D) (sa : Sm N k) (sd : Sm D k) :
    Calls Tryz.prog 32 #[.bool s, .slice ao n ca, .slice bo m cb] w (MakesQ (rq s N D) k w) := by
  have B0 := below_new w (.cells #[.bool false, .slice none 0 0, .slice none 0 0] 25)
  have B1 : Below (w.heap.size + 1) (w.alloc (.cells #[.bool false, .slice none 0 0, .slice none 0 0] 25)) (w.alloc (.cells #[.bool false, .slice none 0 0, .slice none 0 0] 25)) := Below.refl _ _
  have hs1 : (w.alloc (.cells #[.bool false, .slice none 0 0, .slice none 0 0] 25)).heap.size = w.heap.size + 1 := World.size_alloc _ _
  have ha1 := ha.below B0
  have hb1 := hb.below B0
  have hg : 0 < Nat.gcd N D := Nat.gcd_pos_of_pos_right _ hD
  have sg : Sm (Nat.gcd N D) k := Sm.of_le sd (Nat.gcd_le_right _ hD)
  have sq : Sm (D / Nat.gcd N D) k := Sm.of_le sd (Nat.div_le_self _ _)
  have HD := Lib.hid hD
  have HG := Lib.hid hg
  obtain ⟨Q, hQ⟩ : ∃ Q, Q = D / Nat.gcd N D := ⟨_, rfl⟩
  have HQ := Lib.hid hQ
  rw [← hQ] at sq
  obtain ⟨ln, hln⟩ : ∃ ln, ln = (dig (N / Nat.gcd N D)).length := ⟨_, rfl⟩
  have HLN := Lib.hid hln.symm
  obtain ⟨ld, hld⟩ : ∃ ld, ld = (dig Q).length := ⟨_, rfl⟩
  have HLD := Lib.hid hld.symm
  clear hD hg hQ ha hb hln hld
  have fin : ∀ (s' : Bool) (w5 : World) (qo : Option Addr) (qc : Nat) (po : Option Addr) (pc m' : Nat), s' = (s && decide (0 < ln)) → Fr (w.heap.size + 1) w5 qo qc (dig (N / Nat.gcd N D)) → m' = (dd Q).length → Fr (w.heap.size + 1) w5 po pc (dd Q) → Below w.heap.size w w5 → ∀ u v x, MakesQ (rq s N D) k w (.returned (.agg #[.bool s', .slice qo ln qc, .slice po m' pc])) (((w5.setCell ⟨w.heap.size, 0, none⟩ u).setCell ⟨w.heap.size, 1, none⟩ v).setCell ⟨w.heap.size, 2, none⟩ x) := by
    intro s' w5 qo qc po pc m' hs' fq hm' fp BF u v x
    have hcq := cq_of (s := s) (n := ln) (m := m') HD.out HLN.out.symm fq (by rw [← HQ.out]; exact hm') (show Fr (w.heap.size + 1) w5 po pc (dd (D / Nat.gcd N D)) by rw [← HQ.out]; exact fp) sa sd
    rw [← hs'] at hcq
    exact ⟨s', qo, ln, qc, po, m', pc, rfl, (((hcq.set_at _ _).set_at _ _).set_at _ _).mono (by omega), below3 BF (Nat.le_refl _) _ _ _⟩
  have FIN := Lib.hid fin
  clear fin
  go_enter Tryz.func32, Tryz.ntmps32
  go_wp2_with fail
  refine (rGCD_num ha1 hb1 sa sd).mono ?_; rintro e w2 ⟨a2, c2, rfl, f2, b2⟩
  rw [hs1] at f2 b2
  replace ha1 := ha1.below (hs1.symm ▸ b2)
  replace hb1 := hb1.below (hs1.symm ▸ b2)
  replace B1 := B1.trans b2
  have ng := Num.of_fr f2 sg
  go_wp2_with fail
  refine (rDivide_numD ha1 ng HG.out rfl rfl).mono ?_; rintro e w3 ⟨qo, qc, ro, rc, rfl, fq, fr, b3⟩
  rw [HLN.out]
  have hz2 := B1.size
  rw [hs1] at hz2
  replace hb1 := hb1.below b3
  replace ng := ng.below b3
  replace B1 := B1.trans (b3.mono hz2)
  have fq' := fq.mono hz2
  go_wp2_with fail
  refine (rDivide_numD hb1 ng HG.out HQ.out.symm rfl).mono ?_; rintro e w4 ⟨po, pc, ro2, rc2, rfl, fp, fr2, b4⟩
  rw [HLD.out]
  have hz3 := B1.size
  rw [hs1] at hz3
  replace B1 := B1.trans (b4.mono hz3)
  replace fq' := fq'.below b4
  have fp' := fp.mono hz3
  obtain ⟨q0, q1, q2, z0, z1, z2, _⟩ := box3 B1
  have BF := B0.trans (B1.mono (by omega))
  clear ha1 hb1 ng fq fr fr2 f2 b2 b3 b4 fp hz2 hz3
  by_cases h1 : ld = 1
  · obtain ⟨bp, rfl, hBp, hop⟩ := fp'.block (by rw [HLD.out]; omega)
    have hc0 := hop.cell (j := 0) (by rw [HLD.out]; omega)
    have hpc := fp'.1
    have hpm := fp'.2.1
    rw [HLD.out] at hpc
    have hq0 : lm (dig Q) 0 = Q := by
      have h2 := vl_ge (dig Q) 1 (by rw [HLD.out]; omega)
      rw [val_dig, vl, vl, pw_zero] at h2
      omega
    rw [hq0] at hc0
    subst h1
    by_cases hQ1 : Q = 1
    · have hdd : Hid (dd Q = []) := by show _ = _; rw [hQ1]; rfl
      have hcI : ((Q : Int) == 1) = true := beq_iff_eq.2 (by omega)
      clear hQ1 hq0
      cases s
      · go_wp2_with fail
        refine bodyPost_ret (v := .agg #[.bool false, .slice qo ln qc, .slice none 0 0]) (by simp [results, Tryz.results32, go_sem, q0, q1, q2]) rfl ?_
        exact FIN.out _ _ _ _ _ _ _ rfl fq' (by rw [hdd.out]; rfl) (by rw [hdd.out]; exact Fr.nil _ _) BF _ _ _
      · go_wp2_with fail
        refine bodyPost_ret (v := .agg #[.bool (decide (0 < ln)), .slice qo ln qc, .slice none 0 0]) (by simp [results, Tryz.results32, go_sem, q0, q1, q2]) rfl ?_
        exact FIN.out _ _ _ _ _ _ _ rfl fq' (by rw [hdd.out]; rfl) (by rw [hdd.out]; exact Fr.nil _ _) BF _ _ _
    · have hdd : Hid (dd Q = dig Q) := dd_of hQ1
      have hcI : ((Q : Int) == 1) = false := beq_eq_false_iff_ne.2 (by omega)
      clear hQ1 hq0
      cases s
      · go_wp2_with fail
        refine bodyPost_ret (v := .agg #[.bool false, .slice qo ln qc, .slice (some ⟨bp, 0, none⟩) 1 pc]) (by simp [results, Tryz.results32, go_sem, q0, q1, q2]) rfl ?_
        exact FIN.out _ _ _ _ _ _ _ rfl fq' (by rw [hdd.out, HLD.out]) (by rw [hdd.out]; exact fp') BF _ _ _
      · go_wp2_with fail
        refine bodyPost_ret (v := .agg #[.bool (decide (0 < ln)), .slice qo ln qc, .slice (some ⟨bp, 0, none⟩) 1 pc]) (by simp [results, Tryz.results32, go_sem, q0, q1, q2]) rfl ?_
        exact FIN.out _ _ _ _ _ _ _ rfl fq' (by rw [hdd.out, HLD.out]) (by rw [hdd.out]; exact fp') BF _ _ _
  · have hQ1 : Q ≠ 1 := by
      intro e
      have := HLD.out
      rw [e] at this
      exact h1 this.symm
    have hdd : Hid (dd Q = dig Q) := dd_of hQ1
    have hcI : ((ld : Int) == 1) = false := beq_eq_false_iff_ne.2 (by omega)
    clear hQ1 h1
    cases s
    · go_wp2_with fail
      refine bodyPost_ret (v := .agg #[.bool false, .slice qo ln qc, .slice po ld pc]) (by simp [results, Tryz.results32, go_sem, q0, q1, q2]) rfl ?_
      exact FIN.out _ _ _ _ _ _ _ rfl fq' (by rw [hdd.out, HLD.out]) (by rw [hdd.out]; exact fp') BF _ _ _
    · go_wp2_with fail
      refine bodyPost_ret (v := .agg #[.bool (decide (0 < ln)), .slice qo ln qc, .slice po ld pc]) (by simp [results, Tryz.results32, go_sem, q0, q1, q2]) rfl ?_
      exact FIN.out _ _ _ _ _ _ _ rfl fq' (by rw [hdd.out, HLD.out]) (by rw [hdd.out]; exact fp') BF _ _ _
end Go.Proofs.YtdcnkebcpaelpaaGreatDoor
/- Contracts of package rational: Negate, Normalize, sums and products. -/
namespace Go.Proofs.YtdcnkebcpaelpaaGreatDoor
open Go.RowKit

theorem keepB {B : Nat} {W1 w w' : World} (hb : Below w.heap.size w w') (h : Below B W1 w) (hB : B ≤ W1.heap.size) : Below B W1 w' := h.trans (hb.mono (Nat.le_trans hB h.size))
/-- a struct of the call's own at block g -/
def Box3 (w : World) (g : Nat) : Prop := ∃ u v x, w.heap[g]? = some (.cells #[u, v, x] 25 (0, 0))
theorem at_block {w : World} {g : Nat} {u v x : Value} {t : TypeId} (h : w.heap[g]? = some (.cells #[u, v, x] t (0, 0))) :
    w.cell? ⟨g, 0, none⟩ = some u ∧ w.cell? ⟨g, 1, none⟩ = some v ∧ w.cell? ⟨g, 2, none⟩ = some x ∧ w.frozen? ⟨g, 0, none⟩ = false ∧ w.frozen? ⟨g, 1, none⟩ = false ∧ w.frozen? ⟨g, 2, none⟩ = false := by
  refine ⟨?_, ?_, ?_, ?_, ?_, ?_⟩
  · simp [World.cell?, h]
  · simp [World.cell?, h]
  · simp [World.cell?, h]
  · simp [World.frozen?, h]
  · simp [World.frozen?, h]
  · simp [World.frozen?, h]
theorem Box3.facts {w : World} {g : Nat} (h : Box3 w g) : ∃ u v x, w.cell? ⟨g, 0, none⟩ = some u ∧ w.cell? ⟨g, 1, none⟩ = some v ∧ w.cell? ⟨g, 2, none⟩ = some x ∧ w.frozen? ⟨g, 0, none⟩ = false ∧ w.frozen? ⟨g, 1, none⟩ = false ∧ w.frozen? ⟨g, 2, none⟩ = false := by
  obtain ⟨u, v, x, h⟩ := h
  exact ⟨u, v, x, at_block h⟩
theorem Box3.lt {w : World} {g : Nat} (h : Box3 w g) : g < w.heap.size := by
  obtain ⟨u, v, x, h⟩ := h
  exact (Array.getElem?_eq_some_iff.1 h).1
theorem Box3.below {w w' : World} {g : Nat} (h : Box3 w g) (hb : Below w.heap.size w w') : Box3 w' g := by
  have hl := h.lt
  obtain ⟨u, v, x, h⟩ := h
  exact ⟨u, v, x, (hb.block g hl).trans h⟩
theorem Box3.set3 {w : World} {g : Nat} (h : Box3 w g) (u v x : Value) : Box3 (((w.setCell ⟨g, 0, none⟩ u).setCell ⟨g, 1, none⟩ v).setCell ⟨g, 2, none⟩ x) g := by
  obtain ⟨u', v', x', h⟩ := h
  exact ⟨u, v, x, by simp [World.setCell, Array.getElem?_modify, h]⟩
theorem Box3.drew {w : World} {g : Nat} (h : Box3 w g) : Box3 w.drew g := h
theorem MakesQ.lift {q q' : Rat} {k : Nat} {w w1 w2 : World} {s : Bool} {ao : Option Addr} {n ca : Nat} {bo : Option Addr} {m cb : Nat} {g : Nat} (hcq : CQ w1.heap.size w2 s ao n ca bo m cb q' k) (hq : q' = q) (hg : g < w1.heap.size) (hgw : w.heap.size ≤ g) (hb : Below w.heap.size w w2) (u v x : Value) :
    MakesQ q k w (.returned (.agg #[.bool s, .slice ao n ca, .slice bo m cb])) (((w2.setCell ⟨g, 0, none⟩ u).setCell ⟨g, 1, none⟩ v).setCell ⟨g, 2, none⟩ x) := by
  subst hq
  have h1 := hcq.mono (B' := g + 1) (by omega)
  exact ⟨s, ao, n, ca, bo, m, cb, rfl, (((h1.set_at _ _).set_at _ _).set_at _ _).mono (by omega), below3 hb hgw _ _ _⟩
/-- the box of one struct that came in, and that of the result -/
theorem boxes1 (w : World) (s : Bool) (ao : Option Addr) (n ca : Nat) (bo : Option Addr) (m cb : Nat) : ∃ W1, W1 = (w.alloc (.cells #[.bool s, .slice ao n ca, .slice bo m cb] 25)).alloc (.cells #[.bool false, .slice none 0 0, .slice none 0 0] 25) ∧ w.heap.size + 1 ≤ W1.heap.size ∧ Below w.heap.size w W1 ∧ Box3 W1 (w.heap.size + 1) ∧
    Hid (∀ w', Below (w.heap.size + 1) W1 w' → Box3 w' (w.heap.size + 1) → w'.cell? ⟨w.heap.size, 0, none⟩ = some (.bool s) ∧ w'.cell? ⟨w.heap.size, 1, none⟩ = some (.slice ao n ca) ∧ w'.cell? ⟨w.heap.size, 2, none⟩ = some (.slice bo m cb) ∧ Box3 w' (w.heap.size + 1) ∧ Below (w.heap.size + 1) W1 w') := by
  refine ⟨_, rfl, ?_⟩
  obtain ⟨W1, hW1⟩ : ∃ W1, W1 = (w.alloc (.cells #[.bool s, .slice ao n ca, .slice bo m cb] 25)).alloc (.cells #[.bool false, .slice none 0 0, .slice none 0 0] 25) := ⟨_, rfl⟩
  rw [← hW1]
  have hs1 : W1.heap.size = w.heap.size + 1 + 1 := by rw [hW1]; simp
  have x0 : W1.heap[w.heap.size]? = some (.cells #[.bool s, .slice ao n ca, .slice bo m cb] 25 (0, 0)) := by
    rw [hW1, Below.heap_alloc _ _ _ (by simp)]; exact heap_alloc_new w _
  have r0 : W1.heap[w.heap.size + 1]? = some (.cells #[.bool false, .slice none 0 0, .slice none 0 0] 25 (0, 0)) := by
    rw [hW1]; have := heap_alloc_new (w.alloc (.cells #[.bool s, .slice ao n ca, .slice bo m cb] 25)) (.cells #[.bool false, .slice none 0 0, .slice none 0 0] 25); rwa [World.size_alloc] at this
  refine ⟨by omega, by rw [hW1]; exact (below_new w _).alloc (by simp) _, ⟨_, _, _, r0⟩, ?_⟩
  intro w' hb hx
  obtain ⟨a1, a2, a3, _⟩ := at_block ((hb.block w.heap.size (by omega)).trans x0)
  exact ⟨a1, a2, a3, hx, hb⟩

set_option maxHeartbeats 4000000 in
set_option maxRecDepth 100000 in
theorem Negate_q (s : Bool) (ao bo : Option Addr) (n ca m cb k : Nat) (q : Rat) (w : World) (h : RQ w s ao n ca bo m cb q k) :
    Calls Tryz.prog 11 #[.agg #[.bool s, .slice ao n ca, .slice bo m cb]] w (MakesQ (-q) k w) := by
  obtain ⟨N, D, hn, hd, sn, sd, hq, sdn⟩ := h
  obtain ⟨W1, hW1, hsz, B0, X0, K⟩ := boxes1 w s ao n ca bo m cb
  have HN : Hid (∀ w', Below (w.heap.size + 1) W1 w' → Num w' ao n ca N ∧ Num w' bo m cb D) := fun w' hb => ⟨hn.below (B0.trans (hb.mono (by omega))), hd.below (B0.trans (hb.mono (by omega)))⟩
  have HQ : Hid (rq (!s) N (dn D) = -q) := by show _ = _; rw [rq_neg, hq]
  have HSZ := Lib.hid hsz
  clear hn hd sd hq hsz
  go_enter Tryz.func11, Tryz.ntmps11
  go_wp2_with fail
  rw [← hW1]
  clear hW1
  go_region_held3 (fun w' => w'.cell? ⟨w.heap.size, 0, none⟩ = some (.bool s) ∧ w'.cell? ⟨w.heap.size, 1, none⟩ = some (.slice ao n ca) ∧ w'.cell? ⟨w.heap.size, 2, none⟩ = some (.slice bo m cb) ∧ Box3 w' (w.heap.size + 1) ∧ Below (w.heap.size + 1) W1 w')
    (first | exact K.out _ (Below.refl _ _).drew X0.drew | exact K.out _ (keepB b1 (by assumption) HSZ.out) (Box3.below (by assumption) b1) | exact K.out _ BW XW | exact K.out _ (below3 BW (Nat.le_refl _) _ _ _) (XW.set3 _ _ _))
    (first
      | (go_at_call 20; go_split_ands; refine (denominator_num s ao bo n ca m cb D _ (HN.out _ (by assumption)).2).mono ?_; rintro e W2 ⟨a1, n1, c1, rfl, num1, b1⟩)
      | (go_at_call 18; go_split_ands; refine (reduced_any (!s) ao a1 n ca n1 c1 N (dn D) k _ (HN.out _ (by assumption)).1 num1 (dn_pos D) sn sdn).mono ?_; rintro e W3 ⟨s3, a3, n3, c3, o3, m3, d3, rfl, hcq, b2⟩; have BW : Below (w.heap.size + 1) W1 W3 := keepB b2 (by assumption) HSZ.out; have XW : Box3 W3 (w.heap.size + 1) := Box3.below (by assumption) b2; obtain ⟨u0, u1, u2, q0, q1, q2, z0, z1, z2⟩ := XW.facts))
  go_wp2_with fail
  refine bodyPost_ret (v := .agg #[.bool s3, .slice a3 n3 c3, .slice o3 m3 d3]) (by simp [results, Tryz.results11, go_sem, q0, q1, q2]) rfl ?_
  exact MakesQ.lift hcq HQ.out (Box3.lt (by assumption)) (by omega) (B0.trans (BW.mono (by omega))) _ _ _
set_option maxHeartbeats 4000000 in
set_option maxRecDepth 100000 in
theorem Normalize_q (s : Bool) (ao bo : Option Addr) (n ca m cb k : Nat) (q : Rat) (w : World) (h : RQ w s ao n ca bo m cb q k) :
    Calls Tryz.prog 8 #[.agg #[.bool s, .slice ao n ca, .slice bo m cb]] w (MakesQ q k w) := by
  obtain ⟨N, D, hn, hd, sn, sd, hq, sdn⟩ := h
  obtain ⟨W1, hW1, hsz, B0, X0, K⟩ := boxes1 w s ao n ca bo m cb
  have HN : Hid (∀ w', Below (w.heap.size + 1) W1 w' → Num w' ao n ca N ∧ Num w' bo m cb D) := fun w' hb => ⟨hn.below (B0.trans (hb.mono (by omega))), hd.below (B0.trans (hb.mono (by omega)))⟩
  have HQ : Hid (rq s N (dn D) = q) := hq
  have HSZ := Lib.hid hsz
  clear hn hd sd hq hsz
  go_enter Tryz.func8, Tryz.ntmps8
  go_wp2_with fail
  rw [← hW1]
  clear hW1
  go_region_held3 (fun w' => w'.cell? ⟨w.heap.size, 0, none⟩ = some (.bool s) ∧ w'.cell? ⟨w.heap.size, 1, none⟩ = some (.slice ao n ca) ∧ w'.cell? ⟨w.heap.size, 2, none⟩ = some (.slice bo m cb) ∧ Box3 w' (w.heap.size + 1) ∧ Below (w.heap.size + 1) W1 w')
    (first | exact K.out _ (Below.refl _ _).drew X0.drew | exact K.out _ (keepB b1 (by assumption) HSZ.out) (Box3.below (by assumption) b1) | exact K.out _ BW XW | exact K.out _ (below3 BW (Nat.le_refl _) _ _ _) (XW.set3 _ _ _))
    (first
      | (go_at_call 20; go_split_ands; refine (denominator_num s ao bo n ca m cb D _ (HN.out _ (by assumption)).2).mono ?_; rintro e W2 ⟨a1, n1, c1, rfl, num1, b1⟩)
      | (go_at_call 18; go_split_ands; refine (reduced_any s ao a1 n ca n1 c1 N (dn D) k _ (HN.out _ (by assumption)).1 num1 (dn_pos D) sn sdn).mono ?_; rintro e W3 ⟨s3, a3, n3, c3, o3, m3, d3, rfl, hcq, b2⟩; have BW : Below (w.heap.size + 1) W1 W3 := keepB b2 (by assumption) HSZ.out; have XW : Box3 W3 (w.heap.size + 1) := Box3.below (by assumption) b2; obtain ⟨u0, u1, u2, q0, q1, q2, z0, z1, z2⟩ := XW.facts))
  go_wp2_with fail
  refine bodyPost_ret (v := .agg #[.bool s3, .slice a3 n3 c3, .slice o3 m3 d3]) (by simp [results, Tryz.results8, go_sem, q0, q1, q2]) rfl ?_
  exact MakesQ.lift hcq HQ.out (Box3.lt (by assumption)) (by omega) (B0.trans (BW.mono (by omega))) _ _ _
end Go.Proofs.YtdcnkebcpaelpaaGreatDoor
