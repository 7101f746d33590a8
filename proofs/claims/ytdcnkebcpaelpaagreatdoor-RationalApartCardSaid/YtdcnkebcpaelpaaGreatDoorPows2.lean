import Derived.Test.YtdcnkebcpaelpaaGreatDoorRat14
import Derived.Deep.CutRange
/- Contracts: powers of a number that is not 0, with an exponent of at most 60. -/
namespace Go.Proofs.YtdcnkebcpaelpaaGreatDoor
open Go.RowKit

def odd (j : Nat) : Bool := decide (j % 2 = 1)
/-- q to the power j, or to the power -j -/
def powE (q : Rat) (j : Nat) (ng : Bool) : Rat := rq (rs q && odd j) (if ng then q.den ^ j else rn q ^ j) (if ng then rn q ^ j else q.den ^ j)
theorem rn_pos {q : Rat} (h : q ≠ 0) : 0 < rn q := by
  rcases Nat.eq_zero_or_pos (rn q) with e | e
  · exact absurd (Rat.num_eq_zero.1 (Int.natAbs_eq_zero.1 e)) h
  · exact e
theorem powE_mul {q : Rat} (h : q ≠ 0) (j : Nat) (ng : Bool) : powE q j ng * powE q j (!ng) = 1 := by
  have h1 : 0 < rn q ^ j := Nat.pow_pos (rn_pos h)
  have h2 : 0 < q.den ^ j := Nat.pow_pos (den_pos q)
  unfold powE
  rw [← rq_mul, bne_self_eq_false]
  have key : ∀ a b : Nat, 0 < a → 0 < b → rq false (a * b) (b * a) = 1 := fun a b ha hb => by
    unfold rq sg
    have hne := Nat.mul_pos ha hb
    rw [Nat.mul_comm b a, if_neg (by simp), show (1 : Rat) = mkRat 1 1 from rfl, Rat.mkRat_eq_iff (by omega) (by decide)]
    simp
  cases ng
  · exact key _ _ h1 h2
  · exact key _ _ h2 h1
/-- the canonical form of a quotient in lowest terms -/
theorem cq_copr {B : Nat} {w : World} {s : Bool} {N D k : Nat} {ao : Option Addr} {n ca : Nat} {bo : Option Addr} {m cb : Nat} (hg : Nat.gcd N D = 1) (hN : 0 < N) (hD : 0 < D) (hn : n = (dig N).length) (fn : Fr B w ao ca (dig N)) (hm : m = (dd D).length) (fd : Fr B w bo cb (dd D)) (sa : Sm N k) (sd : Sm D k) :
    CQ B w s ao n ca bo m cb (rq s N D) k := by
  have h := cq_of (B := B) (w := w) (s := s) (ao := ao) (n := n) (ca := ca) (bo := bo) (m := m) (cb := cb) (N := N) (D := D) (k := k) hD (by rw [hg, Nat.div_one]; exact hn) (by rw [hg, Nat.div_one]; exact fn) (by rw [hg, Nat.div_one]; exact hm) (by rw [hg, Nat.div_one]; exact fd) sa sd
  rwa [decide_eq_true (by rw [hn]; exact dig_length_pos hN), Bool.and_true] at h
theorem copr_pow {q : Rat} (j : Nat) : Nat.gcd (rn q ^ j) (q.den ^ j) = 1 := Nat.Coprime.pow j j (gcd_self q)
theorem i64_and_one (n : Int) : bits BinOp.and IntKind.i64 n 1 = n % 2 := by
  have h1 : (BitVec.ofInt 64 1).toNat = 2 ^ 1 - 1 := by decide
  have key : (BitVec.ofInt 64 n &&& BitVec.ofInt 64 1).toNat = (n % ((2 ^ 64 : Nat) : Int)).toNat % 2 ^ 1 := by
    rw [BitVec.toNat_and, BitVec.toNat_ofInt, h1, Nat.and_two_pow_sub_one_eq_mod]
  show IntKind.i64.wrap ((BitVec.ofInt 64 n &&& BitVec.ofInt 64 1).toNat : Nat) = n % 2
  rw [key, IntKind.wrap_i64]
  omega

set_option maxHeartbeats 20000000 in
set_option maxRecDepth 100000 in
theorem Power_zero (s : Bool) (ao bo : Option Addr) (n ca m cb : Nat) (q : Rat) (w : World) :
    Calls Tryz.prog 7 #[.agg #[.bool s, .slice ao n ca, .slice bo m cb], .int .i64 0] w (MakesE (powE q 0 false) 200 w) := by
  obtain ⟨W1, hW1, hsz, B0, X0, K⟩ := boxes1 w s ao n ca bo m cb
  have F1 : Hid (∀ w', Calls Tryz.prog 22 #[.int .i64 1] w' (MakesQ (rq (decide ((1 : Int) < 0)) (1 : Int).natAbs 1) 2 w')) := fun w' => FromInt_q 1 (by omega) (by omega) w'
  have HQ : Hid (rq (decide ((1 : Int) < 0)) (1 : Int).natAbs 1 = powE q 0 false) := by
    show _ = _
    unfold powE odd
    rw [if_neg (by simp), if_neg (by simp), Nat.pow_zero, Nat.pow_zero, show decide (0 % 2 = 1) = false from rfl, Bool.and_false]
    rfl
  clear hsz
  go_enter Tryz.func7, Tryz.ntmps7
  go_wp2_with fail
  rw [← hW1]
  clear hW1
  refine (F1.out _).mono ?_; rintro e W2 ⟨s2, a2, n2, c2, o2, m2, d2, rfl, cq2, b2⟩
  have X2 := X0.below b2
  have cq3 := cq2
  rw [HQ.out] at cq3
  have s3 : Sm (rn (powE q 0 false)) 200 := cq3.2.2.2.2.2.1.up (by omega) (by omega)
  have s4 : Sm (powE q 0 false).den 200 := cq3.2.2.2.2.2.2.up (by omega) (by omega)
  have cq4 := cq3.resize s3 s4
  obtain ⟨u0, u1, u2, q0, q1, q2, z0, z1, z2⟩ := X2.facts
  have hlt := X0.lt
  clear cq2 cq3 F1 HQ s3 s4
  go_wp2_with fail
  refine bodyPost_ret (v := .tuple #[.agg #[.bool s2, .slice a2 n2 c2, .slice o2 m2 d2], .int .i64 0]) (by simp [results, Tryz.results7, go_sem, q0, q1, q2]) rfl ?_
  exact MakesE.of (MakesQ.lift cq4 rfl hlt (by omega) (B0.trans (b2.mono B0.size)) _ _ _)
end Go.Proofs.YtdcnkebcpaelpaaGreatDoor
/- Contracts: powers, the walk. -/
namespace Go.Proofs.YtdcnkebcpaelpaaGreatDoor
open Go.RowKit

/-- the parts of a canonical number, as natural numbers -/
theorem CQ.parts {B : Nat} {w : World} {s : Bool} {ao : Option Addr} {n ca : Nat} {bo : Option Addr} {m cb : Nat} {q : Rat} {k : Nat} (h : CQ B w s ao n ca bo m cb q k) :
    s = rs q ∧ Num w ao n ca (rn q) ∧ n = (dig (rn q)).length ∧ Fr B w ao ca (dig (rn q)) ∧ (∃ D, Num w bo m cb D ∧ dn D = q.den) ∧ Sm (rn q) k ∧ Sm q.den k := by
  obtain ⟨h1, h2, h3, h4, h5, h6, h7⟩ := h
  refine ⟨h1, by rw [h2]; exact Num.of_fr h4 h6, h2, h4, ⟨val (dd q.den), ?_, val_dd (den_pos q)⟩, h6, h7⟩
  exact ⟨dd q.den, h3, h5.rd, rfl, Nat.le_trans (dd_len _) h7.len⟩

set_option maxHeartbeats 20000000 in
set_option maxRecDepth 100000 in
theorem Power_pos (s : Bool) (ao bo : Option Addr) (n ca m cb j : Nat) (ng : Bool) (i : Int) (q : Rat) (w : World) (h : RQ w s ao n ca bo m cb q 2) (hq0 : q ≠ 0) (hj : 0 < j) (hj2 : j ≤ 60) (hi : i = if ng then -(j : Int) else (j : Int)) :
    Calls Tryz.prog 7 #[.agg #[.bool s, .slice ao n ca, .slice bo m cb], .int .i64 i] w (MakesE (powE q j ng) 200 w) := by
  obtain ⟨W1, hW1, hsz, B0, X0, K⟩ := boxes1 w s ao n ca bo m cb
  have h1 := h.below B0
  have hi0 : (i == 0) = false := by rw [beq_eq_false_iff_ne, hi]; split <;> omega
  have hib : -60 ≤ i ∧ i ≤ 60 := by rw [hi]; split <;> omega
  obtain ⟨hib1, hib2⟩ := hib
  have hne0 : (sgn q == 0) = false := beq_eq_false_iff_ne.2 (fun e => hq0 (sgn_zero_iff.1 e))
  obtain ⟨u, hu⟩ : ∃ u, u = sgn q := ⟨_, rfl⟩
  rw [← hu] at hne0
  have HU := Lib.hid hu
  have HQ0 := Lib.hid hq0
  have HI := Lib.hid hi
  obtain ⟨o, ho⟩ : ∃ o : Nat, o = j % 2 := ⟨_, rfl⟩
  have hand : bits BinOp.and IntKind.i64 i 1 = (o : Int) := by
    rw [i64_and_one, hi, ho]; split <;> omega
  have hodd : odd j = decide (o = 1) := by unfold odd; rw [ho]
  have HO := Lib.hid hodd
  have hmx : max i (-i) = (j : Int) := by rw [hi]; split <;> omega
  have hwn : IntKind.i64.wrap (-i) = -i := IntWalk.i64_in _ (by omega)
  have hob : o = 0 ∨ o = 1 := by omega
  clear h hsz hi hq0 ho hodd hu
  go_enter Tryz.func7, Tryz.ntmps7
  go_wp2_with fail
  rw [← hW1]
  clear hW1
  refine (Normalize_q s ao bo n ca m cb 2 q _ h1).mono ?_; rintro e W2 ⟨s2, a2, n2, c2, o2, m2, d2, rfl, cq2, b2⟩
  have n2x := below_new W2 (.cells #[.bool s2, .slice a2 n2 c2, .slice o2 m2 d2] 25)
  have X3 := (X0.below b2).below n2x
  have cq3 := cq2.below n2x
  have y3 := heap_alloc_new W2 (.cells #[.bool s2, .slice a2 n2 c2, .slice o2 m2 d2] 25)
  have B3 := b2.trans (n2x.mono b2.size)
  have hlt := X0.lt
  obtain ⟨W3, hW3⟩ : ∃ W3, W3 = W2.alloc (.cells #[.bool s2, .slice a2 n2 c2, .slice o2 m2 d2] 25) := ⟨_, rfl⟩
  rw [← hW3] at X3 cq3 y3 B3
  go_upto_region 4 with fail
  rw [← hW3]
  obtain ⟨gb, hgb⟩ : ∃ g, g = W2.heap.size := ⟨_, rfl⟩
  rw [← hgb] at y3 ⊢
  clear hW3 hgb n2x cq2 b2
  obtain ⟨k0, k1, k2, _⟩ := at_block y3
  go_wp2_with fail
  refine (Sign_q s2 a2 o2 n2 c2 m2 d2 2 q _ cq3.rq).mono ?_; rintro e W4 ⟨rfl, b4⟩
  rw [← HU.out]
  have X4 := X3.below b4
  have cq4 := cq3.below b4
  have y4 := carry y3 b4
  have B4 := B3.trans (b4.mono B3.size)
  clear k0 k1 k2 X3 cq3 y3 B3 b4 h1
  obtain ⟨k0, k1, k2, _⟩ := at_block y4
  obtain ⟨hs2, hN, hn2, fN, ⟨D, hD, hdD⟩, sN, sD⟩ := cq4.parts
  have HS2 := Lib.hid hs2
  have HN2 := Lib.hid hn2
  have HDD := Lib.hid hdD
  clear hs2 hn2 hdD
  obtain ⟨nb, hnb⟩ : ∃ nb, nb = (s2 && odd j) := ⟨_, rfl⟩
  have HNB := Lib.hid hnb
  rw [HO.out] at hnb
  obtain ⟨bn, hbn⟩ : ∃ b, bl (rn q) = b := ⟨_, rfl⟩
  obtain ⟨bd, hbd⟩ : ∃ b, bl q.den = b := ⟨_, rfl⟩
  have hbn2 : bn ≤ 64 := by rw [← hbn]; exact bits_of sN
  have hbd2 : bd ≤ 64 := by rw [← hbd]; exact bits_of sD
  have hbn1 : 1 ≤ bn := by
    rw [← hbn]
    exact bl_pos (rn_pos HQ0.out)
  have hbd1 : 1 ≤ bd := by
    rw [← hbd]
    exact bl_pos (den_pos q)
  have HBN := Lib.hid hbn
  have HBD := Lib.hid hbd
  clear hbn hbd
  have HNB2 := Lib.hid hnb
  clear hnb
  go_upto_region 6 with fail
  go_cut [7] from 13 to 81 (fun v7 wx => v7 = .bool nb ∧ wx = W4)
  case first =>
    cases s2
    all_goals rcases hob with rfl | rfl
    all_goals
      go_wp2_with fail
      go_meet
      exact ⟨by rw [HNB2.out]; rfl, rfl⟩
  case rest =>
    obtain ⟨rfl, rfl⟩ := hcut
    go_wp2_with fail
    refine (denominator_num _ a2 o2 n2 c2 m2 d2 D _ hD).mono ?_; rintro e W5 ⟨a5, n5, c5, rfl, num5, b5⟩
    rw [HDD.out] at num5
    have X5 := X4.below b5
    have y5 := carry y4 b5
    have B5 := B4.trans (b5.mono B4.size)
    have hN5 := hN.below b5
    have fN5 := fN.below b5
    clear k0 k1 k2 X4 cq4 y4 B4 b5 hN fN hD hand hob
    obtain ⟨k0, k1, k2, _⟩ := at_block y5
    obtain ⟨sz, hsz⟩ : ∃ z, z = max bn bd := ⟨_, rfl⟩
    have hmax : max (bn : Int) (bd : Int) = (sz : Int) := by omega
    have HSZ := Lib.hid hsz
    have hsz2 : sz ≤ 64 := by omega
    have hsz1 : 1 ≤ sz := by omega
    clear hsz
    have FIN : Hid (∀ (N' D' : Nat) (W8 W9 : World) (aN : Option Addr) (cN : Nat) (aD : Option Addr) (mD cD : Nat), Nat.gcd N' D' = 1 → 0 < N' → 0 < D' → rq nb N' D' = powE q j ng → Fr W1.heap.size W8 aN cN (dig N') → mD = (dd D').length → Fr W1.heap.size W8 aD cD (dd D') → Sm N' 200 → Sm D' 200 → Below W1.heap.size W1 W8 → ∀ x y z : Value,
        MakesE (powE q j ng) 200 w (.returned (.tuple #[.agg #[.bool nb, .slice aN (dig N').length cN, .slice aD mD cD], .int .i64 0])) (((W8.setCell ⟨w.heap.size + 1, 0, none⟩ x).setCell ⟨w.heap.size + 1, 1, none⟩ y).setCell ⟨w.heap.size + 1, 2, none⟩ z)) := by
      intro N' D' W8 W9 aN cN aD mD cD hg hN0 hD0 hp f1 hm f2 t1 t2 hb x y z
      have hc := cq_copr (s := nb) hg hN0 hD0 rfl f1 hm f2 t1 t2
      rw [hp] at hc
      exact MakesE.of (MakesQ.lift hc rfl hlt (Nat.le_succ _) (B0.trans (hb.mono B0.size)) _ _ _)
    go_wp2_with fail
    refine (Bits_num hN5).mono ?_; rintro e w' ⟨rfl, rfl⟩
    rw [HBN.out]
    go_wp2_with fail
    refine (Bits_num num5).mono ?_; rintro e w' ⟨rfl, rfl⟩
    rw [HBD.out]
    by_cases h1 : sz = 1
    · have hst : ((sz : Int) == 1) = true := by rw [beq_iff_eq]; omega
      have sm1 : Sm 1 200 := ten_sm (j := 0) (by omega)
      have e1 : bn = 1 ∧ bd = 1 := by have := HSZ.out; omega
      have eN : rn q = 1 := bl_one.1 (by rw [HBN.out]; exact e1.1)
      have eD : q.den = 1 := bl_one.1 (by rw [HBD.out]; exact e1.2)
      have HEN := Lib.hid eN
      have HED := Lib.hid eD
      have hn2p : 0 < n2 := by rw [HN2.out, eN]; decide
      have hdec : decide (0 < n2) = true := decide_eq_true hn2p
      clear e1 eN eD hsz1
      go_wp2_with fail
      refine (lowest_any nb a2 a5 n2 c2 n5 c5 q.den _ num5 HED.out).mono ?_; rintro e W6 ⟨rfl, b6⟩
      have X6 := X5.below b6
      have fN6 := fN5.below b6
      have B6 := B5.trans (b6.mono B5.size)
      obtain ⟨u0, u1, u2, q0, q1, q2, z0, z1, z2⟩ := X6.facts
      have hfin := fun x y z => FIN.out 1 1 W6 W6 a2 c2 none 0 0 (by decide) (by decide) (by decide) (by unfold powE; rw [HEN.out, HED.out, Nat.one_pow, ite_self, HNB.out, HS2.out]) (by have := fN6; rw [HEN.out] at this; exact this) rfl (Fr.nil _ _) sm1 sm1 B6 x y z
      have HF := Lib.hid hfin
      clear hfin b6 X6 fN6 num5 hN5
      go_wp2_with fail
      refine bodyPost_ret (v := .tuple #[.agg #[.bool nb, .slice a2 n2 c2, .slice none 0 0], .int .i64 0]) (by simp [results, Tryz.results7, go_sem, q0, q1, q2]) rfl ?_
      have e : n2 = (dig 1).length := by rw [HN2.out, HEN.out]
      rw [e]
      exact HF.out _ _ _
    · have hst : ((sz : Int) == 1) = false := by rw [beq_eq_false_iff_ne]; omega
      obtain ⟨Q, hQ⟩ : ∃ Q, Q = 131072 / sz := ⟨_, rfl⟩
      have hq : (131072 : Int) / (sz : Int) = (Q : Int) := by rw [hQ]; exact (Int.natCast_ediv 131072 sz).symm
      have hqb : Q ≤ 131072 := by rw [hQ]; exact Nat.div_le_self _ _
      have hq2 : 2048 ≤ Q := by
        rw [hQ]
        have := Nat.div_le_div_left (a := 131072) hsz2 (by omega)
        omega
      have hqt : Int.tdiv 131072 (sz : Int) = (Q : Int) := by rw [Int.tdiv_eq_ediv_of_nonneg (by omega)]; exact hq
      have hqw : IntKind.i64.wrap (Q : Int) = (Q : Int) := IntWalk.i64_in _ (by omega)
      have hzz : ((sz : Int) == 0) = false := by rw [beq_eq_false_iff_ne]; omega
      have hgt : decide ((Q : Int) < (j : Int)) = false := decide_eq_false (by omega)
      clear hQ
      have HP1 : Hid (Sm (rn q ^ j) 200) := q_pow_sm60 sN hj2
      have HP2 : Hid (Sm (q.den ^ j) 200) := q_pow_sm60 sD hj2
      have p1 : 0 < rn q ^ j := Nat.pow_pos (rn_pos HQ0.out)
      have p2 : 0 < q.den ^ j := Nat.pow_pos (den_pos q)
      obtain ⟨PN, hPN⟩ : ∃ x, x = rn q ^ j := ⟨_, rfl⟩
      obtain ⟨PD, hPD⟩ : ∃ x, x = q.den ^ j := ⟨_, rfl⟩
      have C1 : Hid (∀ w', Num w' a2 n2 c2 (rn q) → Calls Tryz.prog 25 #[.slice a2 n2 c2, .int .i64 (j : Int)] w' (PowPost 0 PN w')) := fun w' h => by rw [hPN]; exact q_Power_fine (j := j) (j : Int) rfl h sN hj2
      have C2 : Hid (∀ w', Num w' a5 n5 c5 q.den → Calls Tryz.prog 25 #[.slice a5 n5 c5, .int .i64 (j : Int)] w' (PowPost 0 PD w')) := fun w' h => by rw [hPD]; exact q_Power_fine (j := j) (j : Int) rfl h sD hj2
      have hgc := copr_pow (q := q) j
      have hgc2 : Nat.gcd (q.den ^ j) (rn q ^ j) = 1 := by rw [Nat.gcd_comm]; exact hgc
      have hpe : powE q j ng = rq nb (if ng then PD else PN) (if ng then PN else PD) := by unfold powE; rw [hPN, hPD, HNB.out, HS2.out]
      rw [← hPN] at HP1 p1 hgc hgc2
      rw [← hPD] at HP2 p2 hgc hgc2
      have HPE := Lib.hid hpe
      have HG1 := Lib.hid hgc
      have HG2 := Lib.hid hgc2
      clear hPN hPD hgc hgc2 hpe sN sD
      go_wp2_with fail
      refine (C1.out _ hN5).mono ?_; rintro e W6 ⟨a6, c6, rfl, f6, b6⟩
      go_wp2_with fail
      refine (C2.out _ (num5.below b6)).mono ?_; rintro e W7 ⟨a7, c7, rfl, f7, b7⟩
      have X7 := (X5.below b6).below b7
      have B7 := (B5.trans (b6.mono B5.size)).trans (b7.mono (B5.trans (b6.mono B5.size)).size)
      have fN7 := (f6.below b7).mono B5.size
      have fD7 := f7.mono (B5.trans (b6.mono B5.size)).size
      have nN7 := Num.of_fr fN7 HP1.out
      have nD7 := Num.of_fr fD7 HP2.out
      have lN : 0 < (dig PN).length := dig_length_pos p1
      have lD : 0 < (dig PD).length := dig_length_pos p2
      have dN : decide (0 < (dig PN).length) = true := decide_eq_true lN
      have dD : decide (0 < (dig PD).length) = true := decide_eq_true lD
      clear f6 f7 b6 b7 X5 hN5 num5 fN5 B5 C1 C2 hgt hzz hqw hqt hq
      cases ng
      · have hneg : decide (i < 0) = false := decide_eq_false (by rw [HI.out, if_neg (by simp)]; omega)
        by_cases h1 : PD = 1
        · have H1 := Lib.hid h1
          clear h1
          go_wp2_with fail
          refine (lowest_any nb a6 a7 _ c6 _ c7 PD _ nD7 H1.out).mono ?_; rintro e W8 ⟨rfl, b8⟩
          have X8 := X7.below b8
          obtain ⟨u0, u1, u2, q0, q1, q2, z0, z1, z2⟩ := X8.facts
          have hfin := fun x y z => FIN.out PN PD W8 W8 a6 c6 none 0 0 HG1.out p1 p2 (by rw [HPE.out]; rfl) (fN7.below b8) (by rw [H1.out]; rfl) (by rw [H1.out]; exact Fr.nil _ _) HP1.out HP2.out (B7.trans (b8.mono B7.size)) x y z
          have HF := Lib.hid hfin
          clear hfin b8 X8
          go_wp2_with fail
          refine bodyPost_ret (v := .tuple #[.agg #[.bool nb, .slice a6 (dig PN).length c6, .slice none 0 0], .int .i64 0]) (by simp [results, Tryz.results7, go_sem, q0, q1, q2]) rfl (HF.out _ _ _)
        · have H1 := Lib.hid h1
          clear h1
          go_wp2_with fail
          refine (lowest_other nb a6 a7 _ c6 _ c7 PD _ nD7 H1.out).mono ?_; rintro e W8 ⟨rfl, b8⟩
          have X8 := X7.below b8
          obtain ⟨u0, u1, u2, q0, q1, q2, z0, z1, z2⟩ := X8.facts
          have hfin := fun x y z => FIN.out PN PD W8 W8 a6 c6 a7 (dig PD).length c7 HG1.out p1 p2 (by rw [HPE.out]; rfl) (fN7.below b8) (by rw [dd_of H1.out]) (by rw [dd_of H1.out]; exact fD7.below b8) HP1.out HP2.out (B7.trans (b8.mono B7.size)) x y z
          have HF := Lib.hid hfin
          clear hfin b8 X8
          go_wp2_with fail
          refine bodyPost_ret (v := .tuple #[.agg #[.bool nb, .slice a6 (dig PN).length c6, .slice a7 (dig PD).length c7], .int .i64 0]) (by simp [results, Tryz.results7, go_sem, q0, q1, q2]) rfl (HF.out _ _ _)
      · have hneg : decide (i < 0) = true := decide_eq_true (by rw [HI.out, if_pos rfl]; omega)
        by_cases h1 : PN = 1
        · have H1 := Lib.hid h1
          clear h1
          go_wp2_with fail
          refine (lowest_any nb a7 a6 _ c7 _ c6 PN _ nN7 H1.out).mono ?_; rintro e W8 ⟨rfl, b8⟩
          have X8 := X7.below b8
          obtain ⟨u0, u1, u2, q0, q1, q2, z0, z1, z2⟩ := X8.facts
          have hfin := fun x y z => FIN.out PD PN W8 W8 a7 c7 none 0 0 HG2.out p2 p1 (by rw [HPE.out]; rfl) (fD7.below b8) (by rw [H1.out]; rfl) (by rw [H1.out]; exact Fr.nil _ _) HP2.out HP1.out (B7.trans (b8.mono B7.size)) x y z
          have HF := Lib.hid hfin
          clear hfin b8 X8
          go_wp2_with fail
          refine bodyPost_ret (v := .tuple #[.agg #[.bool nb, .slice a7 (dig PD).length c7, .slice none 0 0], .int .i64 0]) (by simp [results, Tryz.results7, go_sem, q0, q1, q2]) rfl (HF.out _ _ _)
        · have H1 := Lib.hid h1
          clear h1
          go_wp2_with fail
          refine (lowest_other nb a7 a6 _ c7 _ c6 PN _ nN7 H1.out).mono ?_; rintro e W8 ⟨rfl, b8⟩
          have X8 := X7.below b8
          obtain ⟨u0, u1, u2, q0, q1, q2, z0, z1, z2⟩ := X8.facts
          have hfin := fun x y z => FIN.out PD PN W8 W8 a7 c7 a6 (dig PN).length c6 HG2.out p2 p1 (by rw [HPE.out]; rfl) (fD7.below b8) (by rw [dd_of H1.out]) (by rw [dd_of H1.out]; exact fN7.below b8) HP2.out HP1.out (B7.trans (b8.mono B7.size)) x y z
          have HF := Lib.hid hfin
          clear hfin b8 X8
          go_wp2_with fail
          refine bodyPost_ret (v := .tuple #[.agg #[.bool nb, .slice a7 (dig PD).length c7, .slice a6 (dig PN).length c6], .int .i64 0]) (by simp [results, Tryz.results7, go_sem, q0, q1, q2]) rfl (HF.out _ _ _)
end Go.Proofs.YtdcnkebcpaelpaaGreatDoor
/- Contracts: a number of small parts, the number 1, powers with their exponents. -/
namespace Go.Proofs.YtdcnkebcpaelpaaGreatDoor
open Go.RowKit

theorem small_rq {s : Bool} {ao bo : Option Addr} {ca cb : Nat} {xs ys us vs : List Nat} {w : World} (ha : Rd w ao ca xs) (hb : Rd w bo cb ys) (hu : us = xs.take 1) (hv : vs = ys.take 1) : RQ w s ao us.length ca bo vs.length cb (rq s (val us) (dn (val vs))) 2 := by
  have key : ∀ {o : Option Addr} {c : Nat} {zs ws : List Nat}, Rd w o c zs → ws = zs.take 1 → Num w o ws.length c (val ws) ∧ Sm (val ws) 2 := by
    intro o c zs ws h hw
    have hl : ws.length ≤ 1 := by rw [hw, List.length_take]; omega
    have h2 : Rd w o c ws := by rw [hw]; exact h.take 1
    exact ⟨Num.of_rd h2 (by omega), Nat.lt_of_lt_of_le (val_lt h2.lims) (pw_mono (by omega)), by omega⟩
  obtain ⟨n1, s1⟩ := key ha hu
  obtain ⟨n2, s2⟩ := key hb hv
  refine ⟨val us, val vs, n1, n2, s1, s2, rfl, ?_⟩
  unfold dn; split
  · exact ⟨by simp [pw], by omega⟩
  · exact s2

set_option maxHeartbeats 2000000 in
set_option maxRecDepth 100000 in
theorem rOne_q (w : World) : Calls Tryz.prog 6 #[] w (MakesQ 1 2 w) := by
  obtain ⟨W1, hW1, B0, X0, hs1⟩ := boxR w
  have F1 : Hid (∀ w', Calls Tryz.prog 21 #[.int .i64 1] w' (MakesQ 1 2 w')) := fun w' => rFromInt_q 1 (by omega) (by omega) w'
  have HS := Lib.hid hs1
  clear hs1
  go_enter Tryz.func6, Tryz.ntmps6
  go_wp2_with fail
  rw [← hW1]
  clear hW1
  refine (F1.out _).mono ?_; rintro e W2 ⟨s2, a2, n2, c2, o2, m2, d2, rfl, cq2, b2⟩
  have X2 := X0.below b2
  have hlt := X0.lt
  obtain ⟨u0, u1, u2, q0, q1, q2, z0, z1, z2⟩ := X2.facts
  go_wp2_with fail
  refine bodyPost_ret (v := .agg #[.bool s2, .slice a2 n2 c2, .slice o2 m2 d2]) (by simp [results, Tryz.results6, go_sem, q0, q1, q2]) rfl ?_
  exact MakesQ.lift cq2 rfl hlt (Nat.le_refl _) (B0.trans (b2.mono B0.size)) _ _ _
theorem powE_zero (q : Rat) : powE q 0 true = powE q 0 false := by unfold powE; simp
theorem Power_any (s : Bool) (ao bo : Option Addr) (n ca m cb j : Nat) (ng : Bool) (i : Int) (q : Rat) (w : World) (h : RQ w s ao n ca bo m cb q 2) (hq0 : q ≠ 0) (hj2 : j ≤ 60) (hi : i = if ng then -(j : Int) else (j : Int)) :
    Calls Tryz.prog 7 #[.agg #[.bool s, .slice ao n ca, .slice bo m cb], .int .i64 i] w (MakesE (powE q j ng) 200 w) := by
  rcases Nat.eq_zero_or_pos j with h0 | h0
  · subst h0
    have e : i = 0 := by rw [hi]; split <;> rfl
    rw [e]
    cases ng
    · exact Power_zero s ao bo n ca m cb q w
    · rw [powE_zero]; exact Power_zero s ao bo n ca m cb q w
  · exact Power_pos s ao bo n ca m cb j ng i q w h hq0 h0 hj2 hi
end Go.Proofs.YtdcnkebcpaelpaaGreatDoor
