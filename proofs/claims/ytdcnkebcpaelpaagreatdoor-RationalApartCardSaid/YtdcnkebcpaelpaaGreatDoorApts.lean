import Derived.Test.YtdcnkebcpaelpaaGreatDoorRats2
import Derived.Test.YtdcnkebcpaelpaaGreatDoorLists
import Derived.Test.YtdcnkebcpaelpaaGreatDoorRat18
/- RationalApart: the same limbs, as they lie. -/
namespace Go.Proofs.YtdcnkebcpaelpaaGreatDoor
open Go.RowKit

set_option maxHeartbeats 4000000 in
set_option maxRecDepth 100000 in
/-- two structs with the same sign and the same limbs are the same, canonical or not -/
theorem Same_rd (s : Bool) (ao bo po qo : Option Addr) (ca cb cl cj : Nat) (xs ys : List Nat) (n m l j : Nat) (w : World) (h1 : Rd w ao ca xs) (h2 : Rd w po cl xs) (h3 : Rd w bo cb ys) (h4 : Rd w qo cj ys) (hn : n = xs.length) (hl : l = xs.length) (hm : m = ys.length) (hj : j = ys.length) :
    Calls Tryz.prog 13 #[.agg #[.bool s, .slice ao n ca, .slice bo m cb], .agg #[.bool s, .slice po l cl, .slice qo j cj]] w fun e w' => e = .returned (.bool true) ∧ Below w.heap.size w w' := by
  obtain ⟨W1, hW1, B0, K⟩ := boxesS w s s ao bo po qo n ca m cb l cl j cj
  have hd : (s == s) = true := beq_iff_eq.2 rfl
  have r1 := h1.below B0
  have r2 := h2.below B0
  have r3 := h3.below B0
  have r4 := h4.below B0
  have L1 := Lib.hid hn
  have L2 := Lib.hid hl
  have L3 := Lib.hid hm
  have L4 := Lib.hid hj
  clear h1 h2 h3 h4 hn hl hm hj
  obtain ⟨e0, e1, e2, e3, e4, e5⟩ := K.out W1 (Below.refl _ _)
  go_enter Tryz.func13, Tryz.ntmps13
  go_wp2_with fail
  rw [← hW1]
  clear hW1
  refine (Same_lenR _ _ _ _ _ _ _ _ r1 r2 L1.out L2.out).mono ?_; rintro e W2 ⟨rfl, b1⟩
  replace r3 := r3.below b1
  replace r4 := r4.below b1
  obtain ⟨g0, g1, g2, g3, g4, g5⟩ := K.out W2 b1
  clear e0 e1 e2 e3 e4 e5
  go_wp2_with fail
  refine (Same_lenR _ _ _ _ _ _ _ _ r3 r4 L3.out L4.out).mono ?_; rintro e W3 ⟨rfl, b2⟩
  go_wp2_with fail
  go_ret
  exact ⟨rfl, (B0.trans (b1.mono B0.size)).trans (b2.mono (B0.trans (b1.mono B0.size)).size)⟩
end Go.Proofs.YtdcnkebcpaelpaaGreatDoor
/- RationalApart: the sum of a short list of numbers of up to twelve limbs (from XRatL3, by genapt2.py). -/
namespace Go.Proofs.YtdcnkebcpaelpaaGreatDoor
open Go.RowKit

def Ib (w : World) (r : RV) (q : Rat) : Prop := RQ w r.s r.ao r.n r.ca r.bo r.m r.cb q 12
theorem Ib.below {w w' : World} {r : RV} {q : Rat} (h : Ib w r q) (g : Below w.heap.size w w') : Ib w' r q := RQ.below h g
def ka (i : Nat) : Nat := 13 * 2 ^ i - 1
theorem ka_succ (i : Nat) : ka (i + 1) = ka i + ka i + 1 := by
  unfold ka
  have : 0 < 2 ^ i := Nat.two_pow_pos i
  rw [Nat.pow_succ]; omega
theorem ka_two (i : Nat) : 12 ≤ ka i := by
  unfold ka
  have : 0 < 2 ^ i := Nat.two_pow_pos i
  omega
theorem ka_le {i : Nat} (hi : i ≤ 3) : ka i ≤ 3221225471 := by
  unfold ka
  have : 2 ^ i ≤ 2 ^ 3 := Nat.pow_le_pow_right (by omega) hi
  have e : (2 : Nat) ^ 3 = 8 := rfl
  omega

set_option maxHeartbeats 8000000 in
set_option maxRecDepth 100000 in
theorem Sum1_b (r : RV) (p q : Rat) (g k : Nat) (w : World) (h : TotAt w g p k) (hr : Ib w r q) (hk : 12 ≤ k) (hk2 : k + k + 1 ≤ 549755813888) :
    Calls Tryz.prog 28 #[.agg #[.bool r.s, .slice r.ao r.n r.ca, .slice r.bo r.m r.cb], .pointer (some ⟨g, 0, none⟩)] w fun e w' => e = .returned (.tuple #[]) ∧ TotAt w' g (p + q) (k + k + 1) ∧ (∀ B, B ≤ g → Below B w w') := by
  have hg := h.lt
  obtain ⟨s, a, n, c, o, m, d, x0, cq⟩ := h
  have B1 := below_new w (.cells #[.bool r.s, .slice r.ao r.n r.ca, .slice r.bo r.m r.cb] 25)
  have x1 := carry x0 B1
  have cq1 := cq.below B1
  have hr1 := hr.below B1
  have y1 := heap_alloc_new w (.cells #[.bool r.s, .slice r.ao r.n r.ca, .slice r.bo r.m r.cb] 25)
  obtain ⟨W1, hW1⟩ : ∃ W1, W1 = w.alloc (.cells #[.bool r.s, .slice r.ao r.n r.ca, .slice r.bo r.m r.cb] 25) := ⟨_, rfl⟩
  rw [← hW1] at B1 x1 cq1 hr1 y1
  have HA : Calls Tryz.prog 9 #[.agg #[.bool s, .slice a n c, .slice o m d], .agg #[.bool r.s, .slice r.ao r.n r.ca, .slice r.bo r.m r.cb]] W1 (MakesQ (p + q) (k + k + 1) W1) := Add_q _ _ _ _ _ _ _ _ _ _ _ _ _ _ k p q W1 cq1.rq (RQ.up hr1 hk (by omega)) hk2
  have HA2 := Lib.hid HA
  clear HA hr1 hr cq cq1
  obtain ⟨c0, c1, c2, _, _, _⟩ := at_block x0
  have X1 := Lib.hid x1
  clear x0 x1 y1
  go_enter Tryz.func28, Tryz.ntmps28
  go_wp2_with fail
  rw [← hW1]
  clear hW1
  refine (HA2.out).mono ?_; rintro e W2 ⟨s2, a2, n2, e2, o2, m2, f2, rfl, cq2, b2⟩
  have x2 := carry X1.out b2
  have hg1 : g < W1.heap.size := (Array.getElem?_eq_some_iff.1 X1.out).1
  have B2 := B1.trans (b2.mono B1.size)
  have HR : Hid (TotAt (((W2.setCell ⟨g, 0, none⟩ (.bool s2)).setCell ⟨g, 1, none⟩ (.slice a2 n2 e2)).setCell ⟨g, 2, none⟩ (.slice o2 m2 f2)) g (p + q) (k + k + 1)) :=
    ⟨s2, a2, n2, e2, o2, m2, f2, set3_at x2 _ _ _, (((cq2.mono (by omega)).set_at 0 _).set_at 1 _).set_at 2 _⟩
  have HB : Hid (∀ B, B ≤ g → Below B w (((W2.setCell ⟨g, 0, none⟩ (.bool s2)).setCell ⟨g, 1, none⟩ (.slice a2 n2 e2)).setCell ⟨g, 2, none⟩ (.slice o2 m2 f2))) := fun B hB => below3 (B2.mono (by omega)) hB _ _ _
  obtain ⟨u0, u1, u2, z0, z1, z2⟩ := at_block x2
  clear c0 c1 c2 cq2 b2 x2 B1 B2 X1 HA2
  go_wp2_with fail
  refine bodyPost_end (v := .tuple #[]) (by simp [results, Tryz.results28, go_sem]) rfl ?_
  exact ⟨rfl, HR.out, HB.out⟩

set_option maxHeartbeats 8000000 in
set_option maxRecDepth 100000 in
theorem fold_b (f : RV → Rat) (ao : Option Addr) (cap : Nat) (us : List RV) (g : Nat) (w0 w : World) (h : RdR w0 ao cap us) (hl : us.length ≤ 3) (hf : ∀ u ∈ us, Ib w0 u (f u)) (hb : Below w0.heap.size w0 w) (hg : w0.heap.size ≤ g) (ht : TotAt w g 0 12) :
    Calls Tryz.prog 27 #[.slice ao us.length cap, .func (.func 28) #[] #[.pointer (some ⟨g, 0, none⟩)]] w fun e w' => e = .returned (.tuple #[]) ∧ TotAt w' g (tot f us) (ka us.length) ∧ (∀ B, B ≤ g → Below B w w') := by
  obtain ⟨n, hn⟩ : ∃ n, n = us.length := ⟨_, rfl⟩
  have a1 := h.1
  have a2 := h.2.1
  rw [← hn] at a1 hl ⊢
  have HH := Lib.hid h
  have HF : Hid (∀ u ∈ us, Ib w0 u (f u)) := hf
  have HN := Lib.hid hn
  have HB := Lib.hid hb
  have HT := Lib.hid ht
  clear h hf hn hb ht
  go_enter Tryz.func27, Tryz.ntmps27
  go_wp2_with fail
  go_loopw [8] (fun s8 wr => ∃ i : Nat, i ≤ n ∧ s8 = .int .i64 (i : Int) ∧ Hid (TotAt wr g (tot f (us.take i)) (ka i)) ∧ Hid (∀ B, B ≤ g → Below B w wr)) (fun s8 _ => n - (intOf s8).toNat)
  case atStart => exact ⟨0, by omega, rfl, HT.out, fun _ _ => Below.refl _ _⟩
  case round =>
    obtain ⟨i, hi, rfl, htot, hfr⟩ := hrel
    have hgs := htot.out.lt
    have hbl : Hid (Below w0.heap.size w0 wr) := HB.out.trans (hfr.out _ hg)
    by_cases hlt : i < n
    · have hlt2 : (i : Int) < (n : Int) := by omega
      obtain ⟨b, o, rfl, hat⟩ := HH.out.at (by rw [← HN.out]; omega)
      obtain ⟨r, hre⟩ : ∃ r, r = us.getD i RV.nil := ⟨_, rfl⟩
      obtain ⟨c0, c1, c2⟩ := (hat i (by rw [← HN.out]; omega)).below hbl.out
      rw [← hre] at c0 c1 c2
      have hmem : r ∈ us := by
        rw [hre]
        have : i < us.length := by rw [← HN.out]; omega
        simp [List.getD, this]
      have n1 := below_new wr (.cells #[.bool r.s, .slice r.ao r.n r.ca, .slice r.bo r.m r.cb] 25)
      have B1 := hbl.out.trans (n1.mono hbl.out.size)
      have HC := Lib.hid (Sum1_b r _ (f r) g (ka i) _ (htot.out.below n1) ((HF.out r hmem).below B1) (ka_two i) (by have := ka_le (show i ≤ 3 by omega); omega))
      have HE : Hid (tot f (us.take (i + 1)) = tot f (us.take i) + f r) := by unfold Hid; rw [hre]; exact tot_take f us i (by rw [← HN.out]; omega)
      have HB1 := Lib.hid n1
      clear hat hre hmem n1 B1
      go_wp2_with fail
      refine (HC.out).mono ?_; rintro e w2 ⟨rfl, t2, b2⟩
      have HT2 : Hid (TotAt w2 g (tot f (us.take (i + 1))) (ka (i + 1))) := by unfold Hid; rw [HE.out, ka_succ]; exact t2
      have HB2 : Hid (∀ B, B ≤ g → Below B w w2) := fun B hB => (hfr.out B hB).trans ((HB1.out.mono (by omega)).trans (b2 _ hB))
      clear c0 c1 c2 HC t2 b2
      go_wp2_with fail
      go_roundw
      case rel => exact ⟨i + 1, by omega, by go_num, HT2, HB2⟩
      case measure => simp [intOf]; omega
    · obtain rfl : i = n := by omega
      have hlt2 : ¬ (i : Int) < (i : Int) := by omega
      go_wp2_with fail
      refine bodyPost_end (v := .tuple #[]) (by simp [results, Tryz.results27, go_sem]) rfl ?_
      refine ⟨rfl, ?_, hfr.out⟩
      have := htot.out
      rwa [HN.out, List.take_length, ← HN.out] at this

set_option maxHeartbeats 8000000 in
set_option maxRecDepth 100000 in
theorem Sum_b (f : RV → Rat) (ao : Option Addr) (cap : Nat) (us : List RV) (w : World) (h : RdR w ao cap us) (hl : us.length ≤ 3) (hf : ∀ u ∈ us, Ib w u (f u)) :
    Calls Tryz.prog 12 #[.slice ao us.length cap] w (MakesQ (tot f us) (ka us.length) w) := by
  have B1 := below_new w (.cells #[.bool false, .slice none 0 0, .slice none 0 0] 25)
  have y1 := heap_alloc_new w (.cells #[.bool false, .slice none 0 0, .slice none 0 0] 25)
  have s1 : (w.alloc (.cells #[.bool false, .slice none 0 0, .slice none 0 0] 25)).heap.size = w.heap.size + 1 := World.size_alloc _ _
  obtain ⟨W1, hW1⟩ : ∃ W1, W1 = w.alloc (.cells #[.bool false, .slice none 0 0, .slice none 0 0] 25) := ⟨_, rfl⟩
  rw [← hW1] at B1 y1 s1
  have B2 := B1.trans ((below_new W1 (.cells #[.bool false, .slice none 0 0, .slice none 0 0] 25)).mono B1.size)
  have y2 := carry y1 (below_new W1 (.cells #[.bool false, .slice none 0 0, .slice none 0 0] 25))
  have x2 := heap_alloc_new W1 (.cells #[.bool false, .slice none 0 0, .slice none 0 0] 25)
  obtain ⟨W2, hW2⟩ : ∃ W2, W2 = W1.alloc (.cells #[.bool false, .slice none 0 0, .slice none 0 0] 25) := ⟨_, rfl⟩
  rw [← hW2] at B2 y2 x2
  have s2 : W2.heap.size = w.heap.size + 1 + 1 := by rw [hW2, World.size_alloc, s1]
  have HC := Lib.hid (fold_b f ao cap us W1.heap.size w W2 h hl hf B2 B1.size ⟨_, _, _, _, _, _, _, x2, cq_zero _ _ 12 (by omega) (by omega)⟩)
  rw [s1] at HC
  have HY := Lib.hid y2
  have HS := Lib.hid s2
  have HB := Lib.hid B2
  clear h hf hl B2 y2 x2 y1 B1 s1 s2
  go_enter Tryz.func12, Tryz.ntmps12
  go_wp2_with fail
  rw [← hW1, ← hW2]
  clear hW1 hW2
  refine (HC.out).mono ?_; rintro e W3 ⟨rfl, ⟨s3, a3, n3, e3, o3, m3, f3, x3, cq3⟩, b3⟩
  have g3 : w.heap.size < W2.heap.size := by rw [HS.out]; omega
  have y3 := ((b3 (w.heap.size + 1) (Nat.le_refl _)).block w.heap.size (by omega)).trans HY.out
  have B3 := HB.out.trans (b3 w.heap.size (by omega))
  obtain ⟨u0, u1, u2, z0, z1, z2⟩ := at_block y3
  obtain ⟨v0, v1, v2, _, _, _⟩ := at_block x3
  rw [show w.heap.size + 1 + 1 = W2.heap.size from HS.out.symm] at cq3
  have HQ := Lib.hid cq3
  have HB3 := Lib.hid B3
  clear HC HY HB HS x3 y3 cq3 b3 B3
  go_wp2_with fail
  refine bodyPost_ret (v := .agg #[.bool s3, .slice a3 n3 e3, .slice o3 m3 f3]) (by simp [results, Tryz.results12, go_sem, u0, u1, u2]) rfl ?_
  exact MakesQ.lift HQ.out rfl g3 (Nat.le_refl _) HB3.out _ _ _

end Go.Proofs.YtdcnkebcpaelpaaGreatDoor
/- RationalApart: powers of numbers of up to twelve limbs (genapt3.py). -/
namespace Go.Proofs.YtdcnkebcpaelpaaGreatDoor
open Go.RowKit

set_option maxHeartbeats 20000000 in
set_option maxRecDepth 100000 in
theorem Power_fitb (s : Bool) (ao bo : Option Addr) (n ca m cb j : Nat) (ng : Bool) (i : Int) (q : Rat) (w : World) (h : RQ w s ao n ca bo m cb q 12) (hq0 : q ≠ 0) (hj : 0 < j) (hj2 : j ≤ 65536) (hfit : bl (rn q) * j ≤ 131072 ∧ bl q.den * j ≤ 131072) (hi : i = if ng then -(j : Int) else (j : Int)) :
    Calls Tryz.prog 7 #[.agg #[.bool s, .slice ao n ca, .slice bo m cb], .int .i64 i] w (MakesE (powE q j ng) 5000 w) := by
  obtain ⟨W1, hW1, hsz, B0, X0, K⟩ := boxes1 w s ao n ca bo m cb
  have h1 := h.below B0
  have hi0 : (i == 0) = false := by rw [beq_eq_false_iff_ne, hi]; split <;> omega
  have hib : -65536 ≤ i ∧ i ≤ 65536 := by rw [hi]; split <;> omega
  obtain ⟨hib1, hib2⟩ := hib
  have hne0 : (sgn q == 0) = false := beq_eq_false_iff_ne.2 (fun e => hq0 (sgn_zero_iff.1 e))
  obtain ⟨u, hu⟩ : ∃ u, u = sgn q := ⟨_, rfl⟩
  rw [← hu] at hne0
  have HU := Lib.hid hu
  have HQ0 := Lib.hid hq0
  have HI := Lib.hid hi
  obtain ⟨o, ho⟩ : ∃ o : Nat, o = j % 2 := ⟨_, rfl⟩
  have hand : bits BinOp.and IntKind.i64 i 1 = (o : Int) := by
    rw [i64_and_one, hi, ho]; split <;> omega
  have hodd : odd j = decide (o = 1) := by unfold odd; rw [ho]
  have HO := Lib.hid hodd
  have hmx : max i (-i) = (j : Int) := by rw [hi]; split <;> omega
  have hwn : IntKind.i64.wrap (-i) = -i := IntWalk.i64_in _ (by omega)
  have hob : o = 0 ∨ o = 1 := by omega
  clear h hsz hi hq0 ho hodd hu
  go_enter Tryz.func7, Tryz.ntmps7
  go_wp2_with fail
  rw [← hW1]
  clear hW1
  refine (Normalize_q s ao bo n ca m cb 12 q _ h1).mono ?_; rintro e W2 ⟨s2, a2, n2, c2, o2, m2, d2, rfl, cq2, b2⟩
  have n2x := below_new W2 (.cells #[.bool s2, .slice a2 n2 c2, .slice o2 m2 d2] 25)
  have X3 := (X0.below b2).below n2x
  have cq3 := cq2.below n2x
  have y3 := heap_alloc_new W2 (.cells #[.bool s2, .slice a2 n2 c2, .slice o2 m2 d2] 25)
  have B3 := b2.trans (n2x.mono b2.size)
  have hlt := X0.lt
  obtain ⟨W3, hW3⟩ : ∃ W3, W3 = W2.alloc (.cells #[.bool s2, .slice a2 n2 c2, .slice o2 m2 d2] 25) := ⟨_, rfl⟩
  rw [← hW3] at X3 cq3 y3 B3
  go_upto_region 4 with fail
  rw [← hW3]
  obtain ⟨gb, hgb⟩ : ∃ g, g = W2.heap.size := ⟨_, rfl⟩
  rw [← hgb] at y3 ⊢
  clear hW3 hgb n2x cq2 b2
  obtain ⟨k0, k1, k2, _⟩ := at_block y3
  go_wp2_with fail
  refine (Sign_q s2 a2 o2 n2 c2 m2 d2 12 q _ cq3.rq).mono ?_; rintro e W4 ⟨rfl, b4⟩
  rw [← HU.out]
  have X4 := X3.below b4
  have cq4 := cq3.below b4
  have y4 := carry y3 b4
  have B4 := B3.trans (b4.mono B3.size)
  clear k0 k1 k2 X3 cq3 y3 B3 b4 h1
  obtain ⟨k0, k1, k2, _⟩ := at_block y4
  obtain ⟨hs2, hN, hn2, fN, ⟨D, hD, hdD⟩, sN, sD⟩ := cq4.parts
  have HS2 := Lib.hid hs2
  have HN2 := Lib.hid hn2
  have HDD := Lib.hid hdD
  clear hs2 hn2 hdD
  obtain ⟨nb, hnb⟩ : ∃ nb, nb = (s2 && odd j) := ⟨_, rfl⟩
  have HNB := Lib.hid hnb
  rw [HO.out] at hnb
  have HF1 := Lib.hid hfit.1
  have HF2 := Lib.hid hfit.2
  obtain ⟨bn, hbn⟩ : ∃ b, bl (rn q) = b := ⟨_, rfl⟩
  obtain ⟨bd, hbd⟩ : ∃ b, bl q.den = b := ⟨_, rfl⟩
  have hbn2 : bn ≤ 384 := by rw [← hbn]; exact bits_of sN
  have hbd2 : bd ≤ 384 := by rw [← hbd]; exact bits_of sD
  have hbn1 : 1 ≤ bn := by
    rw [← hbn]
    exact bl_pos (rn_pos HQ0.out)
  have hbd1 : 1 ≤ bd := by
    rw [← hbd]
    exact bl_pos (den_pos q)
  have HBF := Lib.hid (show bn * j ≤ 131072 ∧ bd * j ≤ 131072 by rw [← hbn, ← hbd]; exact hfit)
  have HBN := Lib.hid hbn
  have HBD := Lib.hid hbd
  clear hbn hbd hfit
  have HNB2 := Lib.hid hnb
  clear hnb
  go_upto_region 6 with fail
  go_cut [7] from 13 to 81 (fun v7 wx => v7 = .bool nb ∧ wx = W4)
  case first =>
    cases s2
    all_goals rcases hob with rfl | rfl
    all_goals
      go_wp2_with fail
      go_meet
      exact ⟨by rw [HNB2.out]; rfl, rfl⟩
  case rest =>
    obtain ⟨rfl, rfl⟩ := hcut
    go_wp2_with fail
    refine (denominator_num _ a2 o2 n2 c2 m2 d2 D _ hD).mono ?_; rintro e W5 ⟨a5, n5, c5, rfl, num5, b5⟩
    rw [HDD.out] at num5
    have X5 := X4.below b5
    have y5 := carry y4 b5
    have B5 := B4.trans (b5.mono B4.size)
    have hN5 := hN.below b5
    have fN5 := fN.below b5
    clear k0 k1 k2 X4 cq4 y4 B4 b5 hN fN hD hand hob
    obtain ⟨k0, k1, k2, _⟩ := at_block y5
    obtain ⟨sz, hsz⟩ : ∃ z, z = max bn bd := ⟨_, rfl⟩
    have hmax : max (bn : Int) (bd : Int) = (sz : Int) := by omega
    have HSZ := Lib.hid hsz
    have hsz2 : sz ≤ 384 := by omega
    have hsz1 : 1 ≤ sz := by omega
    clear hsz
    have FIN : Hid (∀ (N' D' : Nat) (W8 W9 : World) (aN : Option Addr) (cN : Nat) (aD : Option Addr) (mD cD : Nat), Nat.gcd N' D' = 1 → 0 < N' → 0 < D' → rq nb N' D' = powE q j ng → Fr W1.heap.size W8 aN cN (dig N') → mD = (dd D').length → Fr W1.heap.size W8 aD cD (dd D') → Sm N' 5000 → Sm D' 5000 → Below W1.heap.size W1 W8 → ∀ x y z : Value,
        MakesE (powE q j ng) 5000 w (.returned (.tuple #[.agg #[.bool nb, .slice aN (dig N').length cN, .slice aD mD cD], .int .i64 0])) (((W8.setCell ⟨w.heap.size + 1, 0, none⟩ x).setCell ⟨w.heap.size + 1, 1, none⟩ y).setCell ⟨w.heap.size + 1, 2, none⟩ z)) := by
      intro N' D' W8 W9 aN cN aD mD cD hg hN0 hD0 hp f1 hm f2 t1 t2 hb x y z
      have hc := cq_copr (s := nb) hg hN0 hD0 rfl f1 hm f2 t1 t2
      rw [hp] at hc
      exact MakesE.of (MakesQ.lift hc rfl hlt (Nat.le_succ _) (B0.trans (hb.mono B0.size)) _ _ _)
    go_wp2_with fail
    refine (Bits_num hN5).mono ?_; rintro e w' ⟨rfl, rfl⟩
    rw [HBN.out]
    go_wp2_with fail
    refine (Bits_num num5).mono ?_; rintro e w' ⟨rfl, rfl⟩
    rw [HBD.out]
    by_cases h1 : sz = 1
    · have hst : ((sz : Int) == 1) = true := by rw [beq_iff_eq]; omega
      have sm1 : Sm 1 5000 := (show Sm 1 200 from ten_sm (j := 0) (by omega)).up (by omega) (by omega)
      have e1 : bn = 1 ∧ bd = 1 := by have := HSZ.out; omega
      have eN : rn q = 1 := bl_one.1 (by rw [HBN.out]; exact e1.1)
      have eD : q.den = 1 := bl_one.1 (by rw [HBD.out]; exact e1.2)
      have HEN := Lib.hid eN
      have HED := Lib.hid eD
      have hn2p : 0 < n2 := by rw [HN2.out, eN]; decide
      have hdec : decide (0 < n2) = true := decide_eq_true hn2p
      clear e1 eN eD hsz1
      go_wp2_with fail
      refine (lowest_any nb a2 a5 n2 c2 n5 c5 q.den _ num5 HED.out).mono ?_; rintro e W6 ⟨rfl, b6⟩
      have X6 := X5.below b6
      have fN6 := fN5.below b6
      have B6 := B5.trans (b6.mono B5.size)
      obtain ⟨u0, u1, u2, q0, q1, q2, z0, z1, z2⟩ := X6.facts
      have hfin := fun x y z => FIN.out 1 1 W6 W6 a2 c2 none 0 0 (by decide) (by decide) (by decide) (by unfold powE; rw [HEN.out, HED.out, Nat.one_pow, ite_self, HNB.out, HS2.out]) (by have := fN6; rw [HEN.out] at this; exact this) rfl (Fr.nil _ _) sm1 sm1 B6 x y z
      have HF := Lib.hid hfin
      clear hfin b6 X6 fN6 num5 hN5
      go_wp2_with fail
      refine bodyPost_ret (v := .tuple #[.agg #[.bool nb, .slice a2 n2 c2, .slice none 0 0], .int .i64 0]) (by simp [results, Tryz.results7, go_sem, q0, q1, q2]) rfl ?_
      have e : n2 = (dig 1).length := by rw [HN2.out, HEN.out]
      rw [e]
      exact HF.out _ _ _
    · have hst : ((sz : Int) == 1) = false := by rw [beq_eq_false_iff_ne]; omega
      obtain ⟨Q, hQ⟩ : ∃ Q, Q = 131072 / sz := ⟨_, rfl⟩
      have hq : (131072 : Int) / (sz : Int) = (Q : Int) := by rw [hQ]; exact (Int.natCast_ediv 131072 sz).symm
      have hqb : Q ≤ 131072 := by rw [hQ]; exact Nat.div_le_self _ _
      have hq2 : j ≤ Q := by
        rw [hQ, Nat.le_div_iff_mul_le (by omega), Nat.mul_comm]
        rcases Nat.le_total bn bd with e | e
        · rw [HSZ.out, Nat.max_eq_right e]; exact HBF.out.2
        · rw [HSZ.out, Nat.max_eq_left e]; exact HBF.out.1
      have hqt : Int.tdiv 131072 (sz : Int) = (Q : Int) := by rw [Int.tdiv_eq_ediv_of_nonneg (by omega)]; exact hq
      have hqw : IntKind.i64.wrap (Q : Int) = (Q : Int) := IntWalk.i64_in _ (by omega)
      have hzz : ((sz : Int) == 0) = false := by rw [beq_eq_false_iff_ne]; omega
      have hgt : decide ((Q : Int) < (j : Int)) = false := decide_eq_false (by omega)
      clear hQ
      have HP1 : Hid (Sm (rn q ^ j) 5000) := pow_sm5 HF1.out
      have HP2 : Hid (Sm (q.den ^ j) 5000) := pow_sm5 HF2.out
      have p1 : 0 < rn q ^ j := Nat.pow_pos (rn_pos HQ0.out)
      have p2 : 0 < q.den ^ j := Nat.pow_pos (den_pos q)
      obtain ⟨PN, hPN⟩ : ∃ x, x = rn q ^ j := ⟨_, rfl⟩
      obtain ⟨PD, hPD⟩ : ∃ x, x = q.den ^ j := ⟨_, rfl⟩
      have C1 : Hid (∀ w', Num w' a2 n2 c2 (rn q) → Calls Tryz.prog 25 #[.slice a2 n2 c2, .int .i64 (j : Int)] w' (PowPost 0 PN w')) := fun w' h => by rw [hPN]; exact pow_fits h HF1.out hj (by omega)
      have C2 : Hid (∀ w', Num w' a5 n5 c5 q.den → Calls Tryz.prog 25 #[.slice a5 n5 c5, .int .i64 (j : Int)] w' (PowPost 0 PD w')) := fun w' h => by rw [hPD]; exact pow_fits h HF2.out hj (by omega)
      have hgc := copr_pow (q := q) j
      have hgc2 : Nat.gcd (q.den ^ j) (rn q ^ j) = 1 := by rw [Nat.gcd_comm]; exact hgc
      have hpe : powE q j ng = rq nb (if ng then PD else PN) (if ng then PN else PD) := by unfold powE; rw [hPN, hPD, HNB.out, HS2.out]
      rw [← hPN] at HP1 p1 hgc hgc2
      rw [← hPD] at HP2 p2 hgc hgc2
      have HPE := Lib.hid hpe
      have HG1 := Lib.hid hgc
      have HG2 := Lib.hid hgc2
      clear hPN hPD hgc hgc2 hpe sN sD
      go_wp2_with fail
      refine (C1.out _ hN5).mono ?_; rintro e W6 ⟨a6, c6, rfl, f6, b6⟩
      go_wp2_with fail
      refine (C2.out _ (num5.below b6)).mono ?_; rintro e W7 ⟨a7, c7, rfl, f7, b7⟩
      have X7 := (X5.below b6).below b7
      have B7 := (B5.trans (b6.mono B5.size)).trans (b7.mono (B5.trans (b6.mono B5.size)).size)
      have fN7 := (f6.below b7).mono B5.size
      have fD7 := f7.mono (B5.trans (b6.mono B5.size)).size
      have nN7 := Num.of_fr fN7 HP1.out
      have nD7 := Num.of_fr fD7 HP2.out
      have lN : 0 < (dig PN).length := dig_length_pos p1
      have lD : 0 < (dig PD).length := dig_length_pos p2
      have dN : decide (0 < (dig PN).length) = true := decide_eq_true lN
      have dD : decide (0 < (dig PD).length) = true := decide_eq_true lD
      clear f6 f7 b6 b7 X5 hN5 num5 fN5 B5 C1 C2 hgt hzz hqw hqt hq
      cases ng
      · have hneg : decide (i < 0) = false := decide_eq_false (by rw [HI.out, if_neg (by simp)]; omega)
        by_cases h1 : PD = 1
        · have H1 := Lib.hid h1
          clear h1
          go_wp2_with fail
          refine (lowest_any nb a6 a7 _ c6 _ c7 PD _ nD7 H1.out).mono ?_; rintro e W8 ⟨rfl, b8⟩
          have X8 := X7.below b8
          obtain ⟨u0, u1, u2, q0, q1, q2, z0, z1, z2⟩ := X8.facts
          have hfin := fun x y z => FIN.out PN PD W8 W8 a6 c6 none 0 0 HG1.out p1 p2 (by rw [HPE.out]; rfl) (fN7.below b8) (by rw [H1.out]; rfl) (by rw [H1.out]; exact Fr.nil _ _) HP1.out HP2.out (B7.trans (b8.mono B7.size)) x y z
          have HF := Lib.hid hfin
          clear hfin b8 X8
          go_wp2_with fail
          refine bodyPost_ret (v := .tuple #[.agg #[.bool nb, .slice a6 (dig PN).length c6, .slice none 0 0], .int .i64 0]) (by simp [results, Tryz.results7, go_sem, q0, q1, q2]) rfl (HF.out _ _ _)
        · have H1 := Lib.hid h1
          clear h1
          go_wp2_with fail
          refine (lowest_other nb a6 a7 _ c6 _ c7 PD _ nD7 H1.out).mono ?_; rintro e W8 ⟨rfl, b8⟩
          have X8 := X7.below b8
          obtain ⟨u0, u1, u2, q0, q1, q2, z0, z1, z2⟩ := X8.facts
          have hfin := fun x y z => FIN.out PN PD W8 W8 a6 c6 a7 (dig PD).length c7 HG1.out p1 p2 (by rw [HPE.out]; rfl) (fN7.below b8) (by rw [dd_of H1.out]) (by rw [dd_of H1.out]; exact fD7.below b8) HP1.out HP2.out (B7.trans (b8.mono B7.size)) x y z
          have HF := Lib.hid hfin
          clear hfin b8 X8
          go_wp2_with fail
          refine bodyPost_ret (v := .tuple #[.agg #[.bool nb, .slice a6 (dig PN).length c6, .slice a7 (dig PD).length c7], .int .i64 0]) (by simp [results, Tryz.results7, go_sem, q0, q1, q2]) rfl (HF.out _ _ _)
      · have hneg : decide (i < 0) = true := decide_eq_true (by rw [HI.out, if_pos rfl]; omega)
        by_cases h1 : PN = 1
        · have H1 := Lib.hid h1
          clear h1
          go_wp2_with fail
          refine (lowest_any nb a7 a6 _ c7 _ c6 PN _ nN7 H1.out).mono ?_; rintro e W8 ⟨rfl, b8⟩
          have X8 := X7.below b8
          obtain ⟨u0, u1, u2, q0, q1, q2, z0, z1, z2⟩ := X8.facts
          have hfin := fun x y z => FIN.out PD PN W8 W8 a7 c7 none 0 0 HG2.out p2 p1 (by rw [HPE.out]; rfl) (fD7.below b8) (by rw [H1.out]; rfl) (by rw [H1.out]; exact Fr.nil _ _) HP2.out HP1.out (B7.trans (b8.mono B7.size)) x y z
          have HF := Lib.hid hfin
          clear hfin b8 X8
          go_wp2_with fail
          refine bodyPost_ret (v := .tuple #[.agg #[.bool nb, .slice a7 (dig PD).length c7, .slice none 0 0], .int .i64 0]) (by simp [results, Tryz.results7, go_sem, q0, q1, q2]) rfl (HF.out _ _ _)
        · have H1 := Lib.hid h1
          clear h1
          go_wp2_with fail
          refine (lowest_other nb a7 a6 _ c7 _ c6 PN _ nN7 H1.out).mono ?_; rintro e W8 ⟨rfl, b8⟩
          have X8 := X7.below b8
          obtain ⟨u0, u1, u2, q0, q1, q2, z0, z1, z2⟩ := X8.facts
          have hfin := fun x y z => FIN.out PD PN W8 W8 a7 c7 a6 (dig PN).length c6 HG2.out p2 p1 (by rw [HPE.out]; rfl) (fD7.below b8) (by rw [dd_of H1.out]) (by rw [dd_of H1.out]; exact fN7.below b8) HP2.out HP1.out (B7.trans (b8.mono B7.size)) x y z
          have HF := Lib.hid hfin
          clear hfin b8 X8
          go_wp2_with fail
          refine bodyPost_ret (v := .tuple #[.agg #[.bool nb, .slice a7 (dig PD).length c7, .slice a6 (dig PN).length c6], .int .i64 0]) (by simp [results, Tryz.results7, go_sem, q0, q1, q2]) rfl (HF.out _ _ _)

set_option maxHeartbeats 20000000 in
set_option maxRecDepth 100000 in
theorem Power_nilb (s : Bool) (ao bo : Option Addr) (n ca m cb : Nat) (i : Int) (q : Rat) (w : World) (h : RQ w s ao n ca bo m cb q 12) (hq0 : q = 0) (hi : 0 < i) :
    Calls Tryz.prog 7 #[.agg #[.bool s, .slice ao n ca, .slice bo m cb], .int .i64 i] w (MakesE 0 2 w) := by
  obtain ⟨W1, hW1, hsz, B0, X0, K⟩ := boxes1 w s ao n ca bo m cb
  have h1 := h.below B0
  have hi0 : (i == 0) = false := by rw [beq_eq_false_iff_ne]; omega
  have hneg : decide (i < 0) = false := decide_eq_false (by omega)
  have HQ0 := Lib.hid hq0
  clear h hsz hq0
  go_enter Tryz.func7, Tryz.ntmps7
  go_wp2_with fail
  rw [← hW1]
  clear hW1
  refine (Normalize_q s ao bo n ca m cb 12 q _ h1).mono ?_; rintro e W2 ⟨s2, a2, n2, c2, o2, m2, d2, rfl, cq2, b2⟩
  have n2x := below_new W2 (.cells #[.bool s2, .slice a2 n2 c2, .slice o2 m2 d2] 25)
  have X3 := (X0.below b2).below n2x
  have cq3 := cq2.below n2x
  have y3 := heap_alloc_new W2 (.cells #[.bool s2, .slice a2 n2 c2, .slice o2 m2 d2] 25)
  have B3 := b2.trans (n2x.mono b2.size)
  have hlt := X0.lt
  obtain ⟨W3, hW3⟩ : ∃ W3, W3 = W2.alloc (.cells #[.bool s2, .slice a2 n2 c2, .slice o2 m2 d2] 25) := ⟨_, rfl⟩
  rw [← hW3] at X3 cq3 y3 B3
  go_upto_region 4 with fail
  rw [← hW3]
  obtain ⟨gb, hgb⟩ : ∃ g, g = W2.heap.size := ⟨_, rfl⟩
  rw [← hgb] at y3 ⊢
  clear hW3 hgb n2x cq2 b2
  obtain ⟨k0, k1, k2, _⟩ := at_block y3
  go_wp2_with fail
  refine (Sign_q s2 a2 o2 n2 c2 m2 d2 12 q _ cq3.rq).mono ?_; rintro e W4 ⟨rfl, b4⟩
  rw [sgn_zero_iff.2 HQ0.out]
  have X4 := X3.below b4
  have cq4 := cq3.below b4
  have y4 := carry y3 b4
  have B4 := B3.trans (b4.mono B3.size)
  have BB := B0.trans (B4.mono B0.size)
  clear k0 k1 k2 X3 cq3 y3 B3 b4 h1
  obtain ⟨hs2, hN, hn2, fN, ⟨D, hD, hdD⟩, sN, sD⟩ := cq4.parts
  obtain ⟨hd1, hr1⟩ := den_of_zero (q := q) (by rw [HQ0.out]; rfl)
  rw [hr1] at hs2
  subst hs2
  have hn0 : n2 = 0 := by rw [hn2, HQ0.out]; rfl
  subst hn0
  have e0 : rn q = 0 := by rw [HQ0.out]; rfl
  rw [e0] at hN fN
  rw [hd1] at hdD
  have HDD := Lib.hid hdD
  obtain ⟨k0, k1, k2, _⟩ := at_block y4
  clear hn2 hd1 hr1 e0 hdD sN sD cq4
  go_wp2_with fail
  refine (denominator_num _ a2 o2 0 c2 m2 d2 D _ hD).mono ?_; rintro e W5 ⟨a5, n5, c5, rfl, num5, b5⟩
  rw [HDD.out] at num5
  have X5 := X4.below b5
  have y5 := carry y4 b5
  have B5 := B4.trans (b5.mono B4.size)
  have hN5 := hN.below b5
  have fN5 := fN.below b5
  clear k0 k1 k2 X4 y4 B4 b5 hN fN hD
  obtain ⟨k0, k1, k2, _⟩ := at_block y5
  go_wp2_with fail
  refine (Bits_num hN5).mono ?_; rintro e w' ⟨rfl, rfl⟩
  rw [show bl 0 = 0 from rfl]
  go_wp2_with fail
  refine (Bits_num num5).mono ?_; rintro e w' ⟨rfl, rfl⟩
  rw [show bl 1 = 1 from rfl]
  go_wp2_with fail
  refine (lowest_any false a2 a5 0 c2 n5 c5 1 _ num5 rfl).mono ?_; rintro e W6 ⟨rfl, b6⟩
  have X6 := X5.below b6
  have fN6 := fN5.below b6
  have B6 := B5.trans (b6.mono B5.size)
  obtain ⟨u0, u1, u2, q0, q1, q2, z0, z1, z2⟩ := X6.facts
  have hz := cq_zero W1.heap.size W6 2 (by omega) (by omega)
  have hc : CQ W1.heap.size W6 false a2 0 c2 none 0 0 (0 : Rat) 2 := by
    obtain ⟨g1, g2, g3, g4, g5, g6, g7⟩ := hz
    exact ⟨g1, g2, g3, fN6, g5, g6, g7⟩
  clear b6 X6 fN6 num5 hN5 hz
  go_wp2_with fail
  refine bodyPost_ret (v := .tuple #[.agg #[.bool false, .slice a2 0 c2, .slice none 0 0], .int .i64 0]) (by simp [results, Tryz.results7, go_sem, q0, q1, q2]) rfl ?_
  exact MakesE.of (MakesQ.lift hc rfl hlt (Nat.le_succ _) (B0.trans (B6.mono B0.size)) _ _ _)
end Go.Proofs.YtdcnkebcpaelpaaGreatDoor
/- RationalApart: the first power of a number of up to twelve limbs is a fresh number. -/
namespace Go.Proofs.YtdcnkebcpaelpaaGreatDoor
open Go.RowKit

theorem RQ.bits {w : World} {s : Bool} {ao : Option Addr} {n ca : Nat} {bo : Option Addr} {m cb : Nat} {q : Rat} {k : Nat} (h : RQ w s ao n ca bo m cb q k) : bl (rn q) ≤ 32 * k ∧ bl q.den ≤ 32 * k := by
  obtain ⟨N, D, _, _, sn, _, hq, sd⟩ := h
  have h1 : rn q ≤ N := by
    rw [← hq, rn_rq (dn_pos D)]
    exact Nat.div_le_self _ _
  have h2 : q.den ≤ dn D := by
    rw [← hq, rd_rq (dn_pos D)]
    exact Nat.div_le_self _ _
  have g1 := bl_le.1 (bits_of sn)
  have g2 := bl_le.1 (bits_of sd)
  exact ⟨bl_le.2 (Nat.lt_of_le_of_lt h1 g1), bl_le.2 (Nat.lt_of_le_of_lt h2 g2)⟩
theorem Power_one (s : Bool) (ao bo : Option Addr) (n ca m cb : Nat) (q : Rat) (w : World) (h : RQ w s ao n ca bo m cb q 12) :
    ∃ r, Calls Tryz.prog 7 #[.agg #[.bool s, .slice ao n ca, .slice bo m cb], .int .i64 1] w (MakesE r 5000 w) := by
  by_cases hq : q = 0
  · refine ⟨0, (Power_nilb s ao bo n ca m cb 1 q w h hq (by omega)).mono ?_⟩
    rintro e w' ⟨s1, a1, n1, c1, o1, m1, d1, rfl, cq1, b1⟩
    obtain ⟨h1, h2, h3, h4, h5, h6, h7⟩ := cq1
    exact ⟨s1, a1, n1, c1, o1, m1, d1, rfl, ⟨h1, h2, h3, h4, h5, h6.up (by omega) (by omega), h7.up (by omega) (by omega)⟩, b1⟩
  · have hb := h.bits
    exact ⟨_, Power_fitb s ao bo n ca m cb 1 false 1 q w h hq (by omega) (by omega) ⟨by omega, by omega⟩ (by simp)⟩
end Go.Proofs.YtdcnkebcpaelpaaGreatDoor
