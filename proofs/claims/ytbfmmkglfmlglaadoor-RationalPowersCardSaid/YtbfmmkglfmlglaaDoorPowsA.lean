import Derived.Test.YtbfmmkglfmlglaaDoorRat18
/- Contracts: what the reference's powers share. -/
namespace Go.Proofs.YtbfmmkglfmlglaaDoor
open Go.RowKit

theorem tmod2_lo (i : Int) : -1 ≤ i.tmod 2 := by
  rcases Int.le_total 0 i with h | h
  · have := Int.tmod_nonneg 2 h; omega
  · obtain ⟨j, rfl⟩ : ∃ j, i = -j := ⟨-i, by omega⟩
    rw [Int.neg_tmod]
    have := Int.tmod_lt_of_pos j (show (0 : Int) < 2 by omega)
    omega
theorem tmod_odd {i : Int} {j : Nat} {ng : Bool} (hi : i = if ng then -(j : Int) else (j : Int)) : (i.tmod 2 != 0) = odd j := by
  have key : ((j : Int).tmod 2 != 0) = odd j := by
    rw [Int.tmod_eq_emod_of_nonneg (by omega)]
    unfold odd
    by_cases h : j % 2 = 1
    · have : (j : Int) % 2 = 1 := by omega
      rw [this, decide_eq_true h]; rfl
    · have : (j : Int) % 2 = 0 := by omega
      rw [this, decide_eq_false h]; rfl
  cases ng
  · rw [hi, if_neg (by simp)]; exact key
  · rw [hi, if_pos rfl, Int.neg_tmod]
    rw [← key]
    by_cases h : (j : Int).tmod 2 = 0
    · rw [h]; rfl
    · have h2 : -(j : Int).tmod 2 ≠ 0 := by omega
      rw [bne_iff_ne.2 h, bne_iff_ne.2 h2]
theorem one_lt_pw {k : Nat} (h : 1 ≤ k) : 1 < pw k := by
  obtain ⟨k, rfl⟩ : ∃ n, k = n + 1 := ⟨k - 1, by omega⟩
  have := pw_pos k
  rw [pw_succ]; omega
theorem raise_z {ao : Option Addr} {n ca N k K R : Nat} {w : World} (i : Int) (hi : i = (k : Int)) (ha : Num w ao n ca N) (hk : k < 9223372036854775808) (hs : Sm (N ^ k + N + 1) K) (hR : N ^ k = R) : Calls Tryd.prog 32 #[.slice ao n ca, .int .i64 i] w (Makes R w) := by
  subst hR; subst hi; exact Raise_num ha hk hs
/-- 1 or -1 in a new block -/
theorem unit_cq (V : World) (nb : Bool) : CQ V.heap.size (V.alloc (.cells #[.int .u32 1] 54)) nb (some ⟨V.heap.size, 0, none⟩) 1 1 none 0 0 (rq nb 1 1) 200 := by
  have f1 : Fr V.heap.size (V.alloc (.cells #[.int .u32 1] 54)) (some ⟨V.heap.size, 0, none⟩) 1 (dig 1) := Fr.of_own (Own.new V [1]) (lims_cons (by omega) lims_nil) (Nat.le_refl _) 1 (by decide) (by omega)
  exact cq_copr (by decide) (by decide) (by decide) rfl f1 rfl (Fr.nil _ _) ⟨one_lt_pw (by omega), by omega⟩ ⟨one_lt_pw (by omega), by omega⟩
def NBx (w : World) (g : Nat) (nb : Bool) : Prop := ∃ a b, w.heap[g]? = some (.cells #[.bool nb, a, b] 27 (0, 0))
theorem NBx.lt {w : World} {g : Nat} {nb : Bool} (h : NBx w g nb) : g < w.heap.size := by
  obtain ⟨a, b, h⟩ := h
  exact (Array.getElem?_eq_some_iff.1 h).1
theorem NBx.below {w w' : World} {g : Nat} {nb : Bool} (h : NBx w g nb) (hb : Below w.heap.size w w') : NBx w' g nb := by
  have hl := h.lt
  obtain ⟨a, b, h⟩ := h
  exact ⟨a, b, (hb.block g hl).trans h⟩
theorem NBx.set1 {w : World} {g : Nat} {nb : Bool} (h : NBx w g nb) (v : Value) : NBx (w.setCell ⟨g, 1, none⟩ v) g nb := by
  obtain ⟨a, b, h⟩ := h
  exact ⟨v, b, by simp [World.setCell, Array.getElem?_modify, h]⟩
theorem NBx.set2 {w : World} {g : Nat} {nb : Bool} (h : NBx w g nb) (v : Value) : NBx (w.setCell ⟨g, 2, none⟩ v) g nb := by
  obtain ⟨a, b, h⟩ := h
  exact ⟨a, v, by simp [World.setCell, Array.getElem?_modify, h]⟩
theorem NBx.facts {w : World} {g : Nat} {nb : Bool} (h : NBx w g nb) : ∃ a b, w.cell? ⟨g, 0, none⟩ = some (.bool nb) ∧ w.cell? ⟨g, 1, none⟩ = some a ∧ w.cell? ⟨g, 2, none⟩ = some b ∧ w.frozen? ⟨g, 0, none⟩ = false ∧ w.frozen? ⟨g, 1, none⟩ = false ∧ w.frozen? ⟨g, 2, none⟩ = false := by
  obtain ⟨a, b, h⟩ := h
  exact ⟨a, b, at_block h⟩
theorem NBx.done {w : World} {g : Nat} {nb : Bool} (h : NBx w g nb) (u v : Value) : ((w.setCell ⟨g, 1, none⟩ u).setCell ⟨g, 2, none⟩ v).heap[g]? = some (.cells #[.bool nb, u, v] 27 (0, 0)) := by
  obtain ⟨a, b, h⟩ := h
  simp [World.setCell, Array.getElem?_modify, h]

end Go.Proofs.YtbfmmkglfmlglaaDoor
/- Contracts: powers of 0. -/
namespace Go.Proofs.YtbfmmkglfmlglaaDoor
open Go.RowKit

set_option maxHeartbeats 20000000 in
set_option maxRecDepth 100000 in
theorem Power_nil (s : Bool) (ao bo : Option Addr) (n ca m cb : Nat) (i : Int) (q : Rat) (w : World) (h : RQ w s ao n ca bo m cb q 2) (hq0 : q = 0) (hi : i < 0) :
    Calls Tryd.prog 12 #[.agg #[.bool s, .slice ao n ca, .slice bo m cb], .int .i64 i] w (fun e w' => e = .returned (.tuple #[.agg #[.bool false, .slice none 0 0, .slice none 0 0], .int .i64 20]) ∧ Below w.heap.size w w') := by
  obtain ⟨W1, hW1, hsz, B0, X0, K⟩ := boxes1 w s ao n ca bo m cb
  have h1 := h.below B0
  have hi0 : (i == 0) = false := by rw [beq_eq_false_iff_ne]; omega
  have hneg : decide (i < 0) = true := decide_eq_true hi
  have HQ0 := Lib.hid hq0
  clear h hsz hq0
  go_enter Tryd.func12, Tryd.ntmps12
  go_wp2_with fail
  rw [← hW1]
  clear hW1
  refine (Normalize_q s ao bo n ca m cb 2 q _ h1).mono ?_; rintro e W2 ⟨s2, a2, n2, c2, o2, m2, d2, rfl, cq2, b2⟩
  have n2x := below_new W2 (.cells #[.bool s2, .slice a2 n2 c2, .slice o2 m2 d2] 27)
  have X3 := (X0.below b2).below n2x
  have cq3 := cq2.below n2x
  have y3 := heap_alloc_new W2 (.cells #[.bool s2, .slice a2 n2 c2, .slice o2 m2 d2] 27)
  have B3 := b2.trans (n2x.mono b2.size)
  have hlt := X0.lt
  obtain ⟨W3, hW3⟩ : ∃ W3, W3 = W2.alloc (.cells #[.bool s2, .slice a2 n2 c2, .slice o2 m2 d2] 27) := ⟨_, rfl⟩
  rw [← hW3] at X3 cq3 y3 B3
  go_upto_region 4 with fail
  rw [← hW3]
  obtain ⟨gb, hgb⟩ : ∃ g, g = W2.heap.size := ⟨_, rfl⟩
  rw [← hgb] at y3 ⊢
  clear hW3 hgb n2x cq2 b2
  obtain ⟨k0, k1, k2, _⟩ := at_block y3
  go_wp2_with fail
  refine (Sign_q s2 a2 o2 n2 c2 m2 d2 2 q _ cq3.rq).mono ?_; rintro e W4 ⟨rfl, b4⟩
  rw [sgn_zero_iff.2 HQ0.out]
  have X4 := X3.below b4
  have cq4 := cq3.below b4
  have y4 := carry y3 b4
  have B4 := B3.trans (b4.mono B3.size)
  have BB := B0.trans (B4.mono B0.size)
  clear k0 k1 k2 X3 cq3 y3 B3 b4 h1
  obtain ⟨u0, u1, u2, q0, q1, q2, z0, z1, z2⟩ := X4.facts
  clear cq4 y4
  go_wp2_with fail
  refine bodyPost_ret (v := .tuple #[.agg #[.bool false, .slice none 0 0, .slice none 0 0], .int .i64 20]) (by simp [results, Tryd.results12, go_sem, q0, q1, q2]) rfl ?_
  exact ⟨rfl, below3 BB (Nat.le_succ _) _ _ _⟩
set_option maxHeartbeats 20000000 in
set_option maxRecDepth 100000 in
theorem Power_nil_up (s : Bool) (ao bo : Option Addr) (n ca m cb : Nat) (i : Int) (q : Rat) (w : World) (h : RQ w s ao n ca bo m cb q 2) (hq0 : q = 0) (hi : 0 < i) :
    Calls Tryd.prog 12 #[.agg #[.bool s, .slice ao n ca, .slice bo m cb], .int .i64 i] w (MakesE 0 2 w) := by
  obtain ⟨W1, hW1, hsz, B0, X0, K⟩ := boxes1 w s ao n ca bo m cb
  have h1 := h.below B0
  have hi0 : (i == 0) = false := by rw [beq_eq_false_iff_ne]; omega
  have hneg : decide (i < 0) = false := decide_eq_false (by omega)
  have HQ0 := Lib.hid hq0
  clear h hsz hq0
  go_enter Tryd.func12, Tryd.ntmps12
  go_wp2_with fail
  rw [← hW1]
  clear hW1
  refine (Normalize_q s ao bo n ca m cb 2 q _ h1).mono ?_; rintro e W2 ⟨s2, a2, n2, c2, o2, m2, d2, rfl, cq2, b2⟩
  have n2x := below_new W2 (.cells #[.bool s2, .slice a2 n2 c2, .slice o2 m2 d2] 27)
  have X3 := (X0.below b2).below n2x
  have cq3 := cq2.below n2x
  have y3 := heap_alloc_new W2 (.cells #[.bool s2, .slice a2 n2 c2, .slice o2 m2 d2] 27)
  have B3 := b2.trans (n2x.mono b2.size)
  have hlt := X0.lt
  obtain ⟨W3, hW3⟩ : ∃ W3, W3 = W2.alloc (.cells #[.bool s2, .slice a2 n2 c2, .slice o2 m2 d2] 27) := ⟨_, rfl⟩
  rw [← hW3] at X3 cq3 y3 B3
  go_upto_region 4 with fail
  rw [← hW3]
  obtain ⟨gb, hgb⟩ : ∃ g, g = W2.heap.size := ⟨_, rfl⟩
  rw [← hgb] at y3 ⊢
  clear hW3 hgb n2x cq2 b2
  obtain ⟨k0, k1, k2, _⟩ := at_block y3
  go_wp2_with fail
  refine (Sign_q s2 a2 o2 n2 c2 m2 d2 2 q _ cq3.rq).mono ?_; rintro e W4 ⟨rfl, b4⟩
  rw [sgn_zero_iff.2 HQ0.out]
  have X4 := X3.below b4
  have cq4 := cq3.below b4
  have y4 := carry y3 b4
  have B4 := B3.trans (b4.mono B3.size)
  have BB := B0.trans (B4.mono B0.size)
  clear k0 k1 k2 X3 cq3 y3 B3 b4 h1
  obtain ⟨hs2, hN, hn2, fN, ⟨D, hD, hdD⟩, sN, sD⟩ := cq4.parts
  obtain ⟨hd1, hr1⟩ := den_of_zero (q := q) (by rw [HQ0.out]; rfl)
  rw [hr1] at hs2
  subst hs2
  have hn0 : n2 = 0 := by rw [hn2, HQ0.out]; rfl
  subst hn0
  have e0 : rn q = 0 := by rw [HQ0.out]; rfl
  rw [e0] at hN fN
  rw [hd1] at hdD
  have HDD := Lib.hid hdD
  obtain ⟨k0, k1, k2, _⟩ := at_block y4
  clear hn2 hd1 hr1 e0 hdD sN sD cq4
  go_wp2_with fail
  refine (denominator_num _ a2 o2 0 c2 m2 d2 D _ hD).mono ?_; rintro e W5 ⟨a5, n5, c5, rfl, num5, b5⟩
  rw [HDD.out] at num5
  have X5 := X4.below b5
  have y5 := carry y4 b5
  have B5 := B4.trans (b5.mono B4.size)
  have hN5 := hN.below b5
  have fN5 := fN.below b5
  clear k0 k1 k2 X4 y4 B4 b5 hN fN hD
  obtain ⟨k0, k1, k2, _⟩ := at_block y5
  go_wp2_with fail
  refine (Bits_num hN5).mono ?_; rintro e w' ⟨rfl, rfl⟩
  rw [show bl 0 = 0 from rfl]
  go_wp2_with fail
  refine (Bits_num num5).mono ?_; rintro e w' ⟨rfl, rfl⟩
  rw [show bl 1 = 1 from rfl]
  go_wp2_with fail
  refine (lowest_any false a2 a5 0 c2 n5 c5 1 _ num5 rfl).mono ?_; rintro e W6 ⟨rfl, b6⟩
  have X6 := X5.below b6
  have fN6 := fN5.below b6
  have B6 := B5.trans (b6.mono B5.size)
  obtain ⟨u0, u1, u2, q0, q1, q2, z0, z1, z2⟩ := X6.facts
  have hz := cq_zero W1.heap.size W6 2 (by omega) (by omega)
  have hc : CQ W1.heap.size W6 false a2 0 c2 none 0 0 (0 : Rat) 2 := by
    obtain ⟨g1, g2, g3, g4, g5, g6, g7⟩ := hz
    exact ⟨g1, g2, g3, fN6, g5, g6, g7⟩
  clear b6 X6 fN6 num5 hN5 hz
  go_wp2_with fail
  refine bodyPost_ret (v := .tuple #[.agg #[.bool false, .slice a2 0 c2, .slice none 0 0], .int .i64 0]) (by simp [results, Tryd.results12, go_sem, q0, q1, q2]) rfl ?_
  exact MakesE.of (MakesQ.lift hc rfl hlt (Nat.le_succ _) (B0.trans (B6.mono B0.size)) _ _ _)
end Go.Proofs.YtbfmmkglfmlglaaDoor
/- Contracts: powers of 1 and of -1. -/
namespace Go.Proofs.YtbfmmkglfmlglaaDoor
open Go.RowKit

set_option maxHeartbeats 20000000 in
set_option maxRecDepth 100000 in
theorem Power_unit (s : Bool) (ao bo : Option Addr) (n ca m cb j : Nat) (ng : Bool) (i : Int) (q : Rat) (w : World) (h : RQ w s ao n ca bo m cb q 2) (hq0 : q ≠ 0) (hj : 0 < j) (hj2 : j ≤ 9223372036854775808) (hi2 : i ≤ 9223372036854775807) (hs1 : max (bl (rn q)) (bl q.den) = 1) (hi : i = if ng then -(j : Int) else (j : Int)) :
    Calls Tryd.prog 12 #[.agg #[.bool s, .slice ao n ca, .slice bo m cb], .int .i64 i] w (MakesE (powE q j ng) 200 w) := by
  obtain ⟨W1, hW1, hsz, B0, X0, K⟩ := boxes1 w s ao n ca bo m cb
  have h1 := h.below B0
  have hi0 : (i == 0) = false := by rw [beq_eq_false_iff_ne, hi]; split <;> omega
  have hib : -9223372036854775808 ≤ i ∧ i ≤ 9223372036854775807 := by refine ⟨?_, hi2⟩; rw [hi]; split <;> omega
  obtain ⟨hib1, hib2⟩ := hib
  have hne0 : (sgn q == 0) = false := beq_eq_false_iff_ne.2 (fun e => hq0 (sgn_zero_iff.1 e))
  obtain ⟨u, hu⟩ : ∃ u, u = sgn q := ⟨_, rfl⟩
  rw [← hu] at hne0
  have HU := Lib.hid hu
  have HQ0 := Lib.hid hq0
  have HI := Lib.hid hi
  obtain ⟨o, ho⟩ : ∃ o : Nat, o = j % 2 := ⟨_, rfl⟩
  have hand : bits BinOp.and IntKind.i64 i 1 = (o : Int) := by
    rw [i64_and_one, hi, ho]; split <;> omega
  have hodd : odd j = decide (o = 1) := by unfold odd; rw [ho]
  have HO := Lib.hid hodd
  have HS11 := Lib.hid hs1
  have hob : o = 0 ∨ o = 1 := by omega
  clear h hsz hi hq0 ho hodd hu hs1 hi2
  go_enter Tryd.func12, Tryd.ntmps12
  go_wp2_with fail
  rw [← hW1]
  clear hW1
  refine (Normalize_q s ao bo n ca m cb 2 q _ h1).mono ?_; rintro e W2 ⟨s2, a2, n2, c2, o2, m2, d2, rfl, cq2, b2⟩
  have n2x := below_new W2 (.cells #[.bool s2, .slice a2 n2 c2, .slice o2 m2 d2] 27)
  have X3 := (X0.below b2).below n2x
  have cq3 := cq2.below n2x
  have y3 := heap_alloc_new W2 (.cells #[.bool s2, .slice a2 n2 c2, .slice o2 m2 d2] 27)
  have B3 := b2.trans (n2x.mono b2.size)
  have hlt := X0.lt
  obtain ⟨W3, hW3⟩ : ∃ W3, W3 = W2.alloc (.cells #[.bool s2, .slice a2 n2 c2, .slice o2 m2 d2] 27) := ⟨_, rfl⟩
  rw [← hW3] at X3 cq3 y3 B3
  go_upto_region 4 with fail
  rw [← hW3]
  obtain ⟨gb, hgb⟩ : ∃ g, g = W2.heap.size := ⟨_, rfl⟩
  rw [← hgb] at y3 ⊢
  clear hW3 hgb n2x cq2 b2
  obtain ⟨k0, k1, k2, _⟩ := at_block y3
  go_wp2_with fail
  refine (Sign_q s2 a2 o2 n2 c2 m2 d2 2 q _ cq3.rq).mono ?_; rintro e W4 ⟨rfl, b4⟩
  rw [← HU.out]
  have X4 := X3.below b4
  have cq4 := cq3.below b4
  have y4 := carry y3 b4
  have B4 := B3.trans (b4.mono B3.size)
  clear k0 k1 k2 X3 cq3 y3 B3 b4 h1
  obtain ⟨k0, k1, k2, _⟩ := at_block y4
  obtain ⟨hs2, hN, hn2, fN, ⟨D, hD, hdD⟩, sN, sD⟩ := cq4.parts
  have HS2 := Lib.hid hs2
  have HN2 := Lib.hid hn2
  have HDD := Lib.hid hdD
  clear hs2 hn2 hdD
  obtain ⟨nb, hnb⟩ : ∃ nb, nb = (s2 && odd j) := ⟨_, rfl⟩
  have HNB := Lib.hid hnb
  rw [HO.out] at hnb
  obtain ⟨bn, hbn⟩ : ∃ b, bl (rn q) = b := ⟨_, rfl⟩
  obtain ⟨bd, hbd⟩ : ∃ b, bl q.den = b := ⟨_, rfl⟩
  have hbn2 : bn ≤ 64 := by rw [← hbn]; exact bits_of sN
  have hbd2 : bd ≤ 64 := by rw [← hbd]; exact bits_of sD
  have hbn1 : 1 ≤ bn := by
    rw [← hbn]
    exact bl_pos (rn_pos HQ0.out)
  have hbd1 : 1 ≤ bd := by
    rw [← hbd]
    exact bl_pos (den_pos q)
  have HBN := Lib.hid hbn
  have HBD := Lib.hid hbd
  clear hbn hbd
  have HNB2 := Lib.hid hnb
  clear hnb
  go_upto_region 6 with fail
  go_cut [7] from 13 to 81 (fun v7 wx => v7 = .bool nb ∧ wx = W4)
  case first =>
    cases s2
    all_goals rcases hob with rfl | rfl
    all_goals
      go_wp2_with fail
      go_meet
      exact ⟨by rw [HNB2.out]; rfl, rfl⟩
  case rest =>
    obtain ⟨rfl, rfl⟩ := hcut
    go_wp2_with fail
    refine (denominator_num _ a2 o2 n2 c2 m2 d2 D _ hD).mono ?_; rintro e W5 ⟨a5, n5, c5, rfl, num5, b5⟩
    rw [HDD.out] at num5
    have X5 := X4.below b5
    have y5 := carry y4 b5
    have B5 := B4.trans (b5.mono B4.size)
    have hN5 := hN.below b5
    have fN5 := fN.below b5
    clear k0 k1 k2 X4 cq4 y4 B4 b5 hN fN hD hand hob
    obtain ⟨k0, k1, k2, _⟩ := at_block y5
    obtain ⟨sz, hsz⟩ : ∃ z, z = max bn bd := ⟨_, rfl⟩
    have hmax : max (bn : Int) (bd : Int) = (sz : Int) := by omega
    have HSZ := Lib.hid hsz
    have hsz2 : sz ≤ 64 := by omega
    have hsz1 : 1 ≤ sz := by omega
    clear hsz
    have FIN : Hid (∀ (N' D' : Nat) (W8 W9 : World) (aN : Option Addr) (cN : Nat) (aD : Option Addr) (mD cD : Nat), Nat.gcd N' D' = 1 → 0 < N' → 0 < D' → rq nb N' D' = powE q j ng → Fr W1.heap.size W8 aN cN (dig N') → mD = (dd D').length → Fr W1.heap.size W8 aD cD (dd D') → Sm N' 200 → Sm D' 200 → Below W1.heap.size W1 W8 → ∀ x y z : Value,
        MakesE (powE q j ng) 200 w (.returned (.tuple #[.agg #[.bool nb, .slice aN (dig N').length cN, .slice aD mD cD], .int .i64 0])) (((W8.setCell ⟨w.heap.size + 1, 0, none⟩ x).setCell ⟨w.heap.size + 1, 1, none⟩ y).setCell ⟨w.heap.size + 1, 2, none⟩ z)) := by
      intro N' D' W8 W9 aN cN aD mD cD hg hN0 hD0 hp f1 hm f2 t1 t2 hb x y z
      have hc := cq_copr (s := nb) hg hN0 hD0 rfl f1 hm f2 t1 t2
      rw [hp] at hc
      exact MakesE.of (MakesQ.lift hc rfl hlt (Nat.le_succ _) (B0.trans (hb.mono B0.size)) _ _ _)
    go_wp2_with fail
    refine (Bits_num hN5).mono ?_; rintro e w' ⟨rfl, rfl⟩
    rw [HBN.out]
    go_wp2_with fail
    refine (Bits_num num5).mono ?_; rintro e w' ⟨rfl, rfl⟩
    rw [HBD.out]
    have h1 : sz = 1 := by
      have a := HSZ.out
      have b := HS11.out
      rw [HBN.out, HBD.out] at b
      rw [a]; exact b
    have hst : ((sz : Int) == 1) = true := by rw [beq_iff_eq]; omega
    have sm1 : Sm 1 200 := ten_sm (j := 0) (by omega)
    have e1 : bn = 1 ∧ bd = 1 := by have := HSZ.out; omega
    have eN : rn q = 1 := bl_one.1 (by rw [HBN.out]; exact e1.1)
    have eD : q.den = 1 := bl_one.1 (by rw [HBD.out]; exact e1.2)
    have HEN := Lib.hid eN
    have HED := Lib.hid eD
    have hn2p : 0 < n2 := by rw [HN2.out, eN]; decide
    have hdec : decide (0 < n2) = true := decide_eq_true hn2p
    clear e1 eN eD hsz1
    go_wp2_with fail
    refine (lowest_any nb a2 a5 n2 c2 n5 c5 q.den _ num5 HED.out).mono ?_; rintro e W6 ⟨rfl, b6⟩
    have X6 := X5.below b6
    have fN6 := fN5.below b6
    have B6 := B5.trans (b6.mono B5.size)
    obtain ⟨u0, u1, u2, q0, q1, q2, z0, z1, z2⟩ := X6.facts
    have hfin := fun x y z => FIN.out 1 1 W6 W6 a2 c2 none 0 0 (by decide) (by decide) (by decide) (by unfold powE; rw [HEN.out, HED.out, Nat.one_pow, ite_self, HNB.out, HS2.out]) (by have := fN6; rw [HEN.out] at this; exact this) rfl (Fr.nil _ _) sm1 sm1 B6 x y z
    have HF := Lib.hid hfin
    clear hfin b6 X6 fN6 num5 hN5
    go_wp2_with fail
    refine bodyPost_ret (v := .tuple #[.agg #[.bool nb, .slice a2 n2 c2, .slice none 0 0], .int .i64 0]) (by simp [results, Tryd.results12, go_sem, q0, q1, q2]) rfl ?_
    have e : n2 = (dig 1).length := by rw [HN2.out, HEN.out]
    rw [e]
    exact HF.out _ _ _
end Go.Proofs.YtbfmmkglfmlglaaDoor
/- Contracts: powers whose exponent does not fit. -/
namespace Go.Proofs.YtbfmmkglfmlglaaDoor
open Go.RowKit

set_option maxHeartbeats 20000000 in
set_option maxRecDepth 100000 in
theorem Power_big (s : Bool) (ao bo : Option Addr) (n ca m cb j : Nat) (ng : Bool) (i : Int) (q : Rat) (w : World) (h : RQ w s ao n ca bo m cb q 2) (hq0 : q ≠ 0) (hj : 0 < j) (hj2 : j ≤ 9223372036854775808) (hi2 : i ≤ 9223372036854775807) (hs2 : 2 ≤ max (bl (rn q)) (bl q.den)) (hbig : 131072 / max (bl (rn q)) (bl q.den) < j) (hi : i = if ng then -(j : Int) else (j : Int)) :
    Calls Tryd.prog 12 #[.agg #[.bool s, .slice ao n ca, .slice bo m cb], .int .i64 i] w (fun e w' => e = .returned (.tuple #[.agg #[.bool false, .slice none 0 0, .slice none 0 0], .int .i64 21]) ∧ Below w.heap.size w w') := by
  obtain ⟨W1, hW1, hsz, B0, X0, K⟩ := boxes1 w s ao n ca bo m cb
  have h1 := h.below B0
  have hi0 : (i == 0) = false := by rw [beq_eq_false_iff_ne, hi]; split <;> omega
  have hib : -9223372036854775808 ≤ i ∧ i ≤ 9223372036854775807 := by refine ⟨?_, hi2⟩; rw [hi]; split <;> omega
  obtain ⟨hib1, hib2⟩ := hib
  have hne0 : (sgn q == 0) = false := beq_eq_false_iff_ne.2 (fun e => hq0 (sgn_zero_iff.1 e))
  obtain ⟨u, hu⟩ : ∃ u, u = sgn q := ⟨_, rfl⟩
  rw [← hu] at hne0
  have HU := Lib.hid hu
  have HQ0 := Lib.hid hq0
  have HI := Lib.hid hi
  obtain ⟨o, ho⟩ : ∃ o : Nat, o = j % 2 := ⟨_, rfl⟩
  have hand : bits BinOp.and IntKind.i64 i 1 = (o : Int) := by
    rw [i64_and_one, hi, ho]; split <;> omega
  have hodd : odd j = decide (o = 1) := by unfold odd; rw [ho]
  have HO := Lib.hid hodd
  obtain ⟨ni, hni⟩ : ∃ x, x = IntKind.i64.wrap (-i) := ⟨_, rfl⟩
  have hwn : IntKind.i64.wrap (-i) = ni := hni.symm
  obtain ⟨M, hM⟩ : ∃ x, x = max i ni := ⟨_, rfl⟩
  have hmx : max i ni = M := hM.symm
  have hMu : IntKind.u64.wrap M = (j : Int) := by
    rw [hM, hni, IntKind.wrap_i64, IntKind.wrap_u64, hi]
    split <;> omega
  have hob : o = 0 ∨ o = 1 := by omega
  have HBIG := Lib.hid hbig
  have HS22 := Lib.hid hs2
  clear h hsz hi hq0 ho hodd hu hni hM hbig hs2 hi2
  go_enter Tryd.func12, Tryd.ntmps12
  go_wp2_with fail
  rw [← hW1]
  clear hW1
  refine (Normalize_q s ao bo n ca m cb 2 q _ h1).mono ?_; rintro e W2 ⟨s2, a2, n2, c2, o2, m2, d2, rfl, cq2, b2⟩
  have n2x := below_new W2 (.cells #[.bool s2, .slice a2 n2 c2, .slice o2 m2 d2] 27)
  have X3 := (X0.below b2).below n2x
  have cq3 := cq2.below n2x
  have y3 := heap_alloc_new W2 (.cells #[.bool s2, .slice a2 n2 c2, .slice o2 m2 d2] 27)
  have B3 := b2.trans (n2x.mono b2.size)
  have hlt := X0.lt
  obtain ⟨W3, hW3⟩ : ∃ W3, W3 = W2.alloc (.cells #[.bool s2, .slice a2 n2 c2, .slice o2 m2 d2] 27) := ⟨_, rfl⟩
  rw [← hW3] at X3 cq3 y3 B3
  go_upto_region 4 with fail
  rw [← hW3]
  obtain ⟨gb, hgb⟩ : ∃ g, g = W2.heap.size := ⟨_, rfl⟩
  rw [← hgb] at y3 ⊢
  clear hW3 hgb n2x cq2 b2
  obtain ⟨k0, k1, k2, _⟩ := at_block y3
  go_wp2_with fail
  refine (Sign_q s2 a2 o2 n2 c2 m2 d2 2 q _ cq3.rq).mono ?_; rintro e W4 ⟨rfl, b4⟩
  rw [← HU.out]
  have X4 := X3.below b4
  have cq4 := cq3.below b4
  have y4 := carry y3 b4
  have B4 := B3.trans (b4.mono B3.size)
  clear k0 k1 k2 X3 cq3 y3 B3 b4 h1
  obtain ⟨k0, k1, k2, _⟩ := at_block y4
  obtain ⟨hs2, hN, hn2, fN, ⟨D, hD, hdD⟩, sN, sD⟩ := cq4.parts
  have HS2 := Lib.hid hs2
  have HN2 := Lib.hid hn2
  have HDD := Lib.hid hdD
  clear hs2 hn2 hdD
  obtain ⟨nb, hnb⟩ : ∃ nb, nb = (s2 && odd j) := ⟨_, rfl⟩
  have HNB := Lib.hid hnb
  rw [HO.out] at hnb
  obtain ⟨bn, hbn⟩ : ∃ b, bl (rn q) = b := ⟨_, rfl⟩
  obtain ⟨bd, hbd⟩ : ∃ b, bl q.den = b := ⟨_, rfl⟩
  have hbn2 : bn ≤ 64 := by rw [← hbn]; exact bits_of sN
  have hbd2 : bd ≤ 64 := by rw [← hbd]; exact bits_of sD
  have hbn1 : 1 ≤ bn := by
    rw [← hbn]
    exact bl_pos (rn_pos HQ0.out)
  have hbd1 : 1 ≤ bd := by
    rw [← hbd]
    exact bl_pos (den_pos q)
  have HBN := Lib.hid hbn
  have HBD := Lib.hid hbd
  clear hbn hbd
  have HNB2 := Lib.hid hnb
  clear hnb
  go_upto_region 6 with fail
  go_cut [7] from 13 to 81 (fun v7 wx => v7 = .bool nb ∧ wx = W4)
  case first =>
    cases s2
    all_goals rcases hob with rfl | rfl
    all_goals
      go_wp2_with fail
      go_meet
      exact ⟨by rw [HNB2.out]; rfl, rfl⟩
  case rest =>
    obtain ⟨rfl, rfl⟩ := hcut
    go_wp2_with fail
    refine (denominator_num _ a2 o2 n2 c2 m2 d2 D _ hD).mono ?_; rintro e W5 ⟨a5, n5, c5, rfl, num5, b5⟩
    rw [HDD.out] at num5
    have X5 := X4.below b5
    have y5 := carry y4 b5
    have B5 := B4.trans (b5.mono B4.size)
    have hN5 := hN.below b5
    have fN5 := fN.below b5
    clear k0 k1 k2 X4 cq4 y4 B4 b5 hN fN hD hand hob
    obtain ⟨k0, k1, k2, _⟩ := at_block y5
    obtain ⟨sz, hsz⟩ : ∃ z, z = max bn bd := ⟨_, rfl⟩
    have hmax : max (bn : Int) (bd : Int) = (sz : Int) := by omega
    have HSZ := Lib.hid hsz
    have hsz2 : sz ≤ 64 := by omega
    have hsz1 : 1 ≤ sz := by omega
    clear hsz
    go_wp2_with fail
    refine (Bits_num hN5).mono ?_; rintro e w' ⟨rfl, rfl⟩
    rw [HBN.out]
    go_wp2_with fail
    refine (Bits_num num5).mono ?_; rintro e w' ⟨rfl, rfl⟩
    rw [HBD.out]
    have hsb : sz = max (bl (rn q)) (bl q.den) := by rw [HBN.out, HBD.out]; exact HSZ.out
    have h22 : 2 ≤ sz := by rw [hsb]; exact HS22.out
    have hst : ((sz : Int) == 1) = false := by rw [beq_eq_false_iff_ne]; omega
    obtain ⟨Q, hQ⟩ : ∃ Q, Q = 131072 / sz := ⟨_, rfl⟩
    have hq : (131072 : Int) / (sz : Int) = (Q : Int) := by rw [hQ]; exact (Int.natCast_ediv 131072 sz).symm
    have hqb : Q ≤ 131072 := by rw [hQ]; exact Nat.div_le_self _ _
    have hqj : Q < j := by rw [hQ, hsb]; exact HBIG.out
    have hqt : Int.tdiv 131072 (sz : Int) = (Q : Int) := by rw [Int.tdiv_eq_ediv_of_nonneg (by omega)]; exact hq
    have hqw : IntKind.i64.wrap (Q : Int) = (Q : Int) := IntWalk.i64_in _ (by omega)
    have hzz : ((sz : Int) == 0) = false := by rw [beq_eq_false_iff_ne]; omega
    have hgt : decide ((Q : Int) < (j : Int)) = true := decide_eq_true (by omega)
    have BB := B0.trans (B5.mono B0.size)
    obtain ⟨u0, u1, u2, q0, q1, q2, z0, z1, z2⟩ := X5.facts
    clear hQ hsb hN5 num5 fN5 h22
    go_wp2_with fail
    refine bodyPost_ret (v := .tuple #[.agg #[.bool false, .slice none 0 0, .slice none 0 0], .int .i64 21]) (by simp [results, Tryd.results12, go_sem, q0, q1, q2]) rfl ?_
    exact ⟨rfl, below3 BB (Nat.le_succ _) _ _ _⟩
end Go.Proofs.YtbfmmkglfmlglaaDoor
