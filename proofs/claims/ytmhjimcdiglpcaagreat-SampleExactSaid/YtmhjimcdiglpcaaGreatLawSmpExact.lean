import Derived.Test.YtmhjimcdiglpcaaGreatDrF
import Derived.Test.YtmhjimcdiglpcaaGreatDrD
import Derived.Test.YtmhjimcdiglpcaaGreatDrC
import Derived.Test.YtmhjimcdiglpcaaGreatEstA
import Derived.Test.YtmhjimcdiglpcaaGreatSmpAw
import Derived.Test.YtmhjimcdiglpcaaGreatInts10
import Derived.Test.YtmhjimcdiglpcaaGreatBoxA
import Derived.Test.YtmhjimcdiglpcaaGreatPows2
import Derived.Test.YtmhjimcdiglpcaaGreatRat10
/- SampleExact: the walk. -/
namespace Go.Proofs.YtmhjimcdiglpcaaGreat.Dr
open Go.RowKit Go.Sort C6 SN

theorem szs_made3 {zs : List Int} (h1 : 1 ≤ zs.length) (h : ∀ x ∈ zs, 1 ≤ x ∧ x ≤ 402) : szs zs = true := szs_good h1 (fun i hi => by
  have e : zs.getD i 0 = zs[i] := by simp [List.getD, hi]
  have := h _ (List.getElem_mem hi)
  rw [e]
  unfold szOk
  rw [decide_eq_true (show 1 ≤ zs[i] by omega), decide_eq_true (show zs[i] ≤ 1099511627776 by omega)]
  rfl)
theorem Same_l3 {ao bo : Option Addr} {ca cb L : Nat} {l : List Int} {w : World} (hL : L = l.length) (hp : RdZ w ao ca l) (hq : RdZ w bo cb l) :
    Calls Tryz.prog 23 #[.slice ao L ca, .slice bo L cb] w fun e w' => e = .returned (.bool true) ∧ Below w.heap.size w w' := by
  have h := S10.SameInts_v ao bo ca cb l l w hp hq
  rw [← hL] at h
  simpa using h
set_option maxHeartbeats 32000000 in
set_option maxRecDepth 100000 in
theorem SampleExact_any (lo : Option Addr) (ts : List Int) (tc : Nat) (w : World) (ht : RdZ w lo tc ts) :
    Calls Tryz.prog 5 #[.slice lo ts.length tc] w fun e w' => e = .returned (.bool true) ∧ Below w.heap.size w w' := by
  obtain ⟨r0, ri, rz0, rz1, rz2⟩ := info_partsr infoRatio
  have HRI : Hid (Tryz.prog.info? 35 = some r0 ∧ r0.zero = some (.agg #[.bool false, .slice none 0 0, .slice none 0 0]) ∧ r0.size = 3 ∧ r0.bytes = 56) := ⟨ri, rz0, rz1, rz2⟩
  clear ri rz0 rz1 rz2
  obtain ⟨W1, hW1⟩ : ∃ W, W = w.alloc (.cells #[.slice lo ts.length tc, .int .i64 0] 25) := ⟨_, rfl⟩
  obtain ⟨B, hB⟩ : ∃ B, B = w.heap.size := ⟨_, rfl⟩
  have b1 : Below w.heap.size w W1 := by rw [hW1]; exact below_new _ _
  have T1 : Tap W1 B lo ts.length tc 0 := by rw [hW1, hB]; exact Tap.new w lo ts.length tc
  have MD := Lib.hid (made_v B lo tc ts 0 W1 T1 (ht.below b1) (fun h b o e => by rw [hB]; exact ht.lt h b o e) (by omega))
  have B1 := Lib.hid b1
  have HBB : Hid (B = w.heap.size) := hB
  clear ht b1 T1
  go_enter Tryz.func5, Tryz.ntmps5
  go_wp2_with fail
  rw [← hW1]
  try rw [← hB]
  clear hW1 hB
  refine MD.out.mono ?_; rintro e W2 ⟨la, lc, zs, k, rfl, hz1, hz8, hzb, hm1, hmn, hz, g2, _⟩
  have B2 : Hid (Below w.heap.size w W2) := B1.out.trans (row_gb g2 B1.out.size (fun j e => by cases e; rw [HBB.out]; exact Nat.le_refl _))
  have hsz := szs_made3 hz1 hzb
  have hE : Hid (drE zs (k : Int) = 0) := by
    unfold Hid drE
    rw [if_neg (by rw [hsz]; decide), if_neg (by omega)]
  have hx : Hid (∀ i, i < zs.length → 1 ≤ fx zs i ∧ fx zs i ≤ 1099511627776) := fun i hi => szs_at hsz hi
  have IN := Lib.hid (Inclusion_v zs (k : Int) la lc W2 (by omega) hz)
  obtain ⟨N, hN⟩ : ∃ N, N = zs.length := ⟨_, rfl⟩
  have HN := Lib.hid hN
  have HZ := Lib.hid hz
  have HSZ := Lib.hid hsz
  have HM : Hid (1 ≤ k ∧ k ≤ zs.length ∧ zs.length ≤ 19) := ⟨hm1, hmn, by omega⟩
  unfold Hid at IN
  rw [← hN] at IN hz1 hz8 hmn ⊢
  have IN := Lib.hid IN
  have hlc : N ≤ lc := by have := hz.1; rw [intz_length, ← hN] at this; exact this
  have hlc2 := hz.2.1
  clear hz g2 hsz hN hzb MD B1
  go_wp2_with fail
  refine IN.out.mono ?_; rintro e W3 ⟨b3, h3⟩
  rcases h3 with ⟨h, _⟩ | ⟨_, m1, od1, K1, pa, pc, hkm, _, _, _, ho1, hK1, rfl, hpn⟩
  · exact absurd hE.out h
  obtain rfl : m1 = k := by omega
  have B3 : Hid (Below w.heap.size w W3) := B2.out.trans (b3.mono B2.out.size)
  have HZ3 : Hid (RdZ W3 la lc zs) := HZ.out.below b3
  have BK := Breaks_v zs (m1 : Int) la lc W3 HM.out.2.2 HZ3.out
  rw [← HN.out] at BK ⊢
  have BK := Lib.hid BK
  have HPN3 := Lib.hid hpn
  have HO := Lib.hid ho1
  have HK := Lib.hid hK1
  clear hkm b3 hpn IN B2 HZ ho1 hK1
  go_wp2_with fail
  refine BK.out.mono ?_; rintro e W4 ⟨b4, h4⟩
  rcases h4 with ⟨h, _⟩ | ⟨_, m, od, K, ba, L, bc, hkm, _, _, _, ho, hK, rfl, hL, hbn⟩
  · exact absurd hE.out h
  obtain rfl : m = m1 := by omega
  obtain rfl : od = od1 := ord_unique ho HO.out
  obtain rfl : K = K1 := cert_unique hK HK.out
  clear HO HK
  have hm1' := HM.out.1
  have hm2' := HM.out.2.1
  have HM : Hid (1 ≤ m ∧ m ≤ zs.length ∧ zs.length ≤ 19) := ⟨by omega, by omega, HM.out.2.2⟩
  clear hm1' hm2'
  have B4 : Hid (Below w.heap.size w W4) := B3.out.trans (b4.mono B3.out.size)
  have HZ4 : Hid (RdZ W4 la lc zs) := HZ3.out.below b4
  obtain ⟨A, hA⟩ : ∃ A, A = itv (fx zs) od K := ⟨_, rfl⟩
  obtain ⟨bd, hbd⟩ : ∃ f, f = bnd (bks (fx zs) od m K zs.length) (itv (fx zs) od K) := ⟨_, rfl⟩
  obtain ⟨ln, hln⟩ : ∃ f, f = len (bks (fx zs) od m K zs.length) (itv (fx zs) od K) := ⟨_, rfl⟩
  obtain ⟨DB, hDB⟩ : ∃ f : Nat → List Nat, f = fun j => drB (fx zs) (od.take K) ((m : Int) - (K : Int)) (T (fx zs) od K) (bnd (bks (fx zs) od m K zs.length) (itv (fx zs) od K) j) zs.length := ⟨_, rfl⟩
  obtain ⟨ac, hac⟩ : ∃ f, f = accI (fx zs) od m K zs.length := ⟨_, rfl⟩
  obtain ⟨Q, hQ⟩ : ∃ f, f = incQ (fx zs) od K ((m : Int) - (K : Int)) := ⟨_, rfl⟩
  have PT : Hid (Parts N m L A bd ln DB ac) := by
    unfold Hid
    rw [hbd, hln, hDB, hac, hA, hL, HN.out]
    exact parts_of ho hK hx.out HM.out.2.1 HM.out.2.2
  have AE : Hid (∀ u, u < N → fq (ac u L) A = Q u) := fun u hu => by
    rw [hac, hA, hL, hQ]
    exact accI_end ho hK hx.out HM.out.2.1 HM.out.2.2 (by rw [← HN.out]; exact hu)
  have SP : Hid (∀ w', Below W4.heap.size W4 w' → ∀ j, j < L → ∀ s ao n0 ca0 bo m0 cb k q, 2 ≤ k ∧ k + k + 1 ≤ 549755813888 → RQ w' s ao n0 ca0 bo m0 cb q k → (bd j : Rat) / (A : Rat) ≤ q → q < (bd (j + 1) : Rat) / (A : Rat) →
      Calls Tryz.prog 7 #[.slice la N lc, .int .i64 (m : Int), .agg #[.bool s, .slice ao n0 ca0, .slice bo m0 cb]] w' fun e w'' => ∃ a c, e = .returned (.tuple #[.slice a m c, .int .i64 0]) ∧ RdZ w'' a c (iz (DB j)) ∧ Below w'.heap.size w' w'') := fun w' hb j hj s ao n0 ca0 bo m0 cb k q hk hq h0 h1 => by
    rw [hbd, hA] at h0 h1
    rw [hL] at hj
    rw [HN.out, hDB]
    exact Systematic_part zs od m K j la lc s ao bo n0 ca0 m0 cb k q hk w' HSZ.out HM.out.2.2 HM.out.1 HM.out.2.1 ho hK (HZ4.out.below hb) hq hj h0 h1
  have hQB : RdN W4 ba bc L (fun j => fq (bd j) A) := by
    obtain ⟨bl, q1, q2, q3⟩ := hbn
    refine ⟨bl, q1, q2, q3.cg (fun u hu => ?_)⟩
    rw [hbd, hA]
    unfold brkQ
    rw [bnd_in (by rw [← hL]; exact hu)]
    simp [List.getD, show u < (bks (fx zs) od m K zs.length).length by rw [← hL]; exact hu]
  have hLN : 1 ≤ L ∧ L ≤ N + 1 := PT.out.cnt
  have HPN : Hid (RdN W4 pa pc N Q) := by rw [hQ, HN.out]; exact HPN3.out.below b4
  obtain ⟨bl, hbl1, hbl2, hbl3⟩ := hQB
  obtain ⟨bb, bo, rfl, hat⟩ := hbl2.at (by omega)
  have hbc : L ≤ bc := by have := hbl2.1; omega
  have hbc2 := hbl2.2.1
  have HBR : Hid (∀ w', Below W4.heap.size W4 w' → ∀ j, j < L → At3 w' bb (bo + j * 3) (bl.getD j RV.nil) ∧ CQ 0 w' (bl.getD j RV.nil).s (bl.getD j RV.nil).ao (bl.getD j RV.nil).n (bl.getD j RV.nil).ca (bl.getD j RV.nil).bo (bl.getD j RV.nil).m (bl.getD j RV.nil).cb (fq (bd j) A) 2) := fun w' hb j hj => ⟨(hat j (by omega)).below hb, (hbl3.at hj).below hb⟩
  have E0 : ((0 : Int) != 0) = false := rfl
  have E1 : ((N : Int) != (N : Int)) = false := by simp
  have E2 : decide ((L : Int) < 1) = false := decide_eq_false (by omega)
  have E3 : decide ((N : Int) + 1 < (L : Int)) = false := decide_eq_false (by omega)
  have hNI : (0 : Int) ≤ (N : Int) := by omega
  have hL20 : L ≤ 20 := by omega
  have ON : Hid (∀ w', Calls Tryz.prog 12 #[] w' (MakesQ 1 2 w')) := fun w' => rOne_q w'
  have HF : Hid (∀ w', Calls Tryz.prog 8 #[.int .i64 1, .int .i64 2] w' (MakesQ (fq 1 2) 2 w')) := fun w' => mFracS 1 2 (by omega) (by omega) (by omega) (by omega) w'
  clear hkm ho hK hL hbn b4 hA hbd hln hDB hac hQ BK HPN3 B3 HZ3 hx hE HSZ hat hbl1 hbl2 hbl3 HZ4
  obtain ⟨gi, hgi⟩ : ∃ g, g = W4.heap.size := ⟨_, rfl⟩
  have HGI := Lib.hid hgi
  clear hgi
  go_upto_region 7 with (at_make; go_loud (refine wpList_make_full _ rfl _ _ 38 rfl W4.heap.size 35 r0 (.agg #[.bool false, .slice none 0 0, .slice none 0 0]) 3 Tryz.underlying38 HRI.out.1 HRI.out.2.1 HRI.out.2.2.1 _ _ _ _ N rfl rfl (by omega) (by omega) (by rw [HRI.out.2.2.2]; omega) (by unfold maxLen; omega) (Nat.le_refl _) ?_); intro w5 hown hgr)
  have hb5 : Below W4.heap.size W4 w5 := (Below.refl _ _).grown hgr (Nat.le_refl _) (fun k hk => by cases hk)
  have hown0 : w5.ownsRow W4.heap.size 35 3 (.slice (some ⟨W4.heap.size, 0, none⟩) N N) N (rvs (List.replicate N RV.nil)) := by rw [← made_rvs]; exact hown
  rw [← HGI.out] at hown0 hb5
  have HO5 := Lib.hid hown0
  have HB5 := Lib.hid hb5
  have HI5 : Hid (Inc w5 N (List.replicate N RV.nil) (fun u => some (fq (ac u 0) A))) := ⟨by simp, fun u hu q hq => by
    replace hq : some (fq (ac u 0) A) = some q := hq
    rw [PT.out.ac0 u, fq_zero PT.out.ab.1] at hq
    obtain rfl : 0 = q := Option.some.inj hq
    simp [List.getD, hu]
    exact cq_zero 0 _ 2 (by omega) (by omega)⟩
  try rw [← HGI.out]
  clear hown hgr hown0 hb5
  go_wp2_with fail
  go_loopw [69] (fun s69 wr => ∃ (j : Nat) (rs : List RV), j ≤ L ∧ s69 = .int .i64 (j : Int) ∧ Hid (wr.ownsRow gi 35 3 (.slice (some ⟨gi, 0, none⟩) N N) N (rvs rs)) ∧ Hid (Inc wr N rs (fun u => some (fq (ac u j) A))) ∧ Hid (Below gi W4 wr)) (fun s69 _ => L - (intOf s69).toNat)
  case atStart => exact ⟨0, _, by omega, rfl, HO5, HI5, HB5⟩
  case round =>
    obtain ⟨j, rs, hjL, rfl, hown, hinc, hbl⟩ := hrel
    by_cases hlt : j < L
    · have hlt2 : (j : Int) < (L : Int) := by omega
      obtain ⟨r, hr⟩ : ∃ r, r = bl.getD j RV.nil := ⟨_, rfl⟩
      have HR : Hid (∀ w', Below gi W4 w' → At3 w' bb (bo + j * 3) r ∧ CQ 0 w' r.s r.ao r.n r.ca r.bo r.m r.cb (fq (bd j) A) 2) := fun w' hb => by rw [hr]; exact HBR.out w' (by rw [← HGI.out]; exact hb) j hlt
      have hPB := Lib.hid (PT.out.hbd j hlt)
      have hwg : gi ≤ wr.heap.size := by have := hbl.out.size; have := HGI.out; omega
      obtain ⟨QL, hQL⟩ : ∃ q, q = fq (ln j) A := ⟨_, rfl⟩
      have hlnb : Hid (1 ≤ ln j ∧ ln j ≤ A) := by unfold Hid; rw [PT.out.hln j]; have := hPB.out; omega
      have QS : Hid (Sm (rn QL) 2 ∧ Sm QL.den 2) := by rw [hQL]; exact fq_sm PT.out.ab.1 PT.out.ab.2 (by have := hlnb.out; omega) (by have := hlnb.out; have := PT.out.ab; omega)
      have hSub : Hid (fq (bd (j + 1)) A - fq (bd j) A = QL) := by unfold Hid; rw [fq_sub PT.out.ab.1 hPB.out.1 (Int.le_of_lt hPB.out.2.1), hQL, PT.out.hln j]
      have hSgn : Hid (sgn QL = 1) := by unfold Hid; rw [hQL]; exact fq_pos PT.out.ab.1 hlnb.out.1
      have HQL := Lib.hid hQL
      clear hr hQL
      go_wp2_with fail
      refine (ON.out _).mono ?_; rintro e w4 ⟨s4, a4, n4, c4, o4, m4, d4, rfl, cq4, b4⟩
      obtain ⟨W5, hW5⟩ : ∃ W, W = w4.alloc (.cells #[.bool s4, .slice a4 n4 c4, .slice o4 m4 d4] 35) := ⟨_, rfl⟩
      obtain ⟨g5, hg5⟩ : ∃ g, g = w4.heap.size := ⟨_, rfl⟩
      have b5 : Below w4.heap.size w4 W5 := by rw [hW5]; exact below_new _ _
      have x5 : Hid (W5.heap[g5]? = some (.cells #[.bool s4, .slice a4 n4 c4, .slice o4 m4 d4] 35 (0, 0))) := by rw [hW5, hg5]; exact heap_alloc_new _ _
      have b45 := b4.trans (b5.mono b4.size)
      have hown5 := Lib.hid (row_below hown.out b45)
      have hinc5 := Lib.hid (hinc.out.below b45)
      have cq5 := Lib.hid ((cq4.below b5).mono (Nat.zero_le _))
      have HB6 : Hid (Below gi W4 W5) := hbl.out.trans (b45.mono hwg)
      have hg5w : Hid (gi < g5) := by
        unfold Hid
        rw [hg5]
        have h1 := (hown.out.lt gi rfl).2
        have := b4.size
        omega
      obtain ⟨j1, hj1⟩ : ∃ j1, j1 = j + 1 := ⟨_, rfl⟩
      have ej : (j : Int) + 1 = (j1 : Int) := by omega
      have HJ1 := Lib.hid hj1
      clear cq4 b4 b5 b45 hown hinc hbl hwg hj1
      go_upto_if 77 with fail
      rw [← hW5]
      try rw [← hg5]
      clear hW5 hg5
      go_cut [] from 77 to 82 (fun wx => ∃ sT aT nT cT oT mT dT, Hid (wx.heap[g5]? = some (.cells #[.bool sT, .slice aT nT cT, .slice oT mT dT] 35 (0, 0))) ∧ Hid (CQ 0 wx sT aT nT cT oT mT dT (fq (bd (j + 1)) A) 2) ∧ Hid (wx.ownsRow gi 35 3 (.slice (some ⟨gi, 0, none⟩) N N) N (rvs rs)) ∧ Hid (Inc wx N rs (fun u => some (fq (ac u j) A))) ∧ Hid (Below gi W4 wx))
      case first =>
        by_cases hj1L : j1 < L
        · have hj1I : (j1 : Int) < (L : Int) := by omega
          obtain ⟨ha1, hc1⟩ := HBR.out W5 (by rw [← HGI.out]; exact HB6.out) j1 hj1L
          obtain ⟨rr, hrr⟩ : ∃ r, r = bl.getD j1 RV.nil := ⟨_, rfl⟩
          rw [← hrr] at ha1 hc1
          obtain ⟨t0, t1, t2⟩ := ha1
          obtain ⟨p0, p1, p2, z0, z1, z2⟩ := at_block x5.out
          have hj1c : j1 < bc := by omega
          have hc1 := Lib.hid hc1
          have SC : Hid (∀ w7, w7 = ((W5.setCell ⟨g5, 0, none⟩ (.bool rr.s)).setCell ⟨g5, 1, none⟩ (.slice rr.ao rr.n rr.ca)).setCell ⟨g5, 2, none⟩ (.slice rr.bo rr.m rr.cb) → ∃ sT aT nT cT oT mT dT, Hid (w7.heap[g5]? = some (.cells #[.bool sT, .slice aT nT cT, .slice oT mT dT] 35 (0, 0))) ∧ Hid (CQ 0 w7 sT aT nT cT oT mT dT (fq (bd (j + 1)) A) 2) ∧ Hid (w7.ownsRow gi 35 3 (.slice (some ⟨gi, 0, none⟩) N N) N (rvs rs)) ∧ Hid (Inc w7 N rs (fun u => some (fq (ac u j) A))) ∧ Hid (Below gi W4 w7)) := fun w7 hw7 => by
            have hgb7 : W5.grownBy w7 (some g5) := by rw [hw7]; exact gb_trans (gb_trans (gbs _ _ _ _) (gbs _ _ _ _)) (gbs _ _ _ _)
            refine ⟨rr.s, rr.ao, rr.n, rr.ca, rr.bo, rr.m, rr.cb, ?_, ?_, ?_, ?_, ?_⟩
            · rw [hw7]; exact set3_at x5.out _ _ _
            · have h := inc_set (P := fun _ => some (fq (bd j1) A)) (rs := [rr]) (N := 1) ⟨rfl, fun u hu q hq => by
                obtain rfl : u = 0 := by omega
                obtain rfl : fq (bd j1) A = q := Option.some.inj hq
                exact hc1.out⟩ x5.out 0 (.bool rr.s)
              obtain ⟨h1, c1, e1⟩ := h
              obtain ⟨h2, c2, e2⟩ := inc_set h1 e1 1 (.slice rr.ao rr.n rr.ca)
              obtain ⟨h3, c3, e3⟩ := inc_set h2 e2 2 (.slice rr.bo rr.m rr.cb)
              rw [hw7, ← HJ1.out]
              exact h3.2 0 (by omega) _ rfl
            · exact hown5.out.kept hgb7 (.inr (fun q => absurd (show gi = g5 from Option.some.inj q) (by have := hg5w.out; omega)))
            · obtain ⟨h1, c1, e1⟩ := inc_set hinc5.out x5.out 0 (.bool rr.s)
              obtain ⟨h2, c2, e2⟩ := inc_set h1 e1 1 (.slice rr.ao rr.n rr.ca)
              obtain ⟨h3, c3, e3⟩ := inc_set h2 e2 2 (.slice rr.bo rr.m rr.cb)
              rw [hw7]; exact h3
            · exact HB6.out.trans (row_gb hgb7 (by have := (hown5.out.lt gi rfl).2; omega) (fun k e => by have h5 := hg5w.out; have := Option.some.inj e; omega))
          clear hrr
          go_wp2_with fail
          go_meet
          exact SC.out _ rfl
        · have hj1I : ¬ (j1 : Int) < (L : Int) := by omega
          have FIN : Hid (∃ sT aT nT cT oT mT dT, Hid (W5.heap[g5]? = some (.cells #[.bool sT, .slice aT nT cT, .slice oT mT dT] 35 (0, 0))) ∧ Hid (CQ 0 W5 sT aT nT cT oT mT dT (fq (bd (j + 1)) A) 2) ∧ Hid (W5.ownsRow gi 35 3 (.slice (some ⟨gi, 0, none⟩) N N) N (rvs rs)) ∧ Hid (Inc W5 N rs (fun u => some (fq (ac u j) A))) ∧ Hid (Below gi W4 W5)) := ⟨s4, a4, n4, c4, o4, m4, d4, x5.out, by
            have e : j + 1 = L := by have := HJ1.out; omega
            unfold Hid
            rw [e, PT.out.fin, fq_self PT.out.ab.1]
            exact cq5.out, hown5, hinc5, HB6⟩
          go_wp2_with fail
          go_meet
          exact FIN.out
      case rest =>
        clear x5 cq5 hown5 hinc5 HB6
        rename World => W7
        obtain ⟨sT, aT, nT, cT, oT, mT, dT, x7, cq7, hown, hinc, hbl⟩ := hcut
        have KT : Hid (∀ w', Below W7.heap.size W7 w' → w'.cell? ⟨g5, 0, none⟩ = some (.bool sT) ∧ w'.cell? ⟨g5, 1, none⟩ = some (.slice aT nT cT) ∧ w'.cell? ⟨g5, 2, none⟩ = some (.slice oT mT dT)) := fun w' hb => by
          obtain ⟨k0, k1, k2, _⟩ := at_block (carry x7.out hb)
          exact ⟨k0, k1, k2⟩
        have hwg : gi < W7.heap.size := (hown.out.lt gi rfl).2
        have KR : Hid (∀ w', Below W7.heap.size W7 w' → At3 w' bb (bo + j * 3) r) := fun w' hb => (HR.out w' (hbl.out.trans (hb.mono (Nat.le_of_lt hwg)))).1
        have SB : Hid (∀ w', Below W7.heap.size W7 w' → Calls Tryz.prog 19 #[.agg #[.bool sT, .slice aT nT cT, .slice oT mT dT], .agg #[.bool r.s, .slice r.ao r.n r.ca, .slice r.bo r.m r.cb]] w' (MakesQ QL (2 + 2 + 1) w')) := fun w' hb => by
          rw [← hSub.out]
          exact rSub_q _ _ _ _ _ _ _ _ _ _ _ _ _ _ 2 _ _ w' (cq7.out.below hb).rq (HR.out w' (hbl.out.trans (hb.mono (Nat.le_of_lt hwg)))).2.rq (by omega)
        have hjc : j < bc := by omega
        go_upto_region 13 with fail
        go_cut [12] from 83 to 88 (fun vb wx => BoxQ W7 QL 2 vb wx)
        case first =>
            refine wp_region_any (by kernel_rfl) ?_
            refine region_ssa [83, 84, 85, 86, 87, 88, 12] (Below W7.heap.size W7) (ExtT 35 W7.heap.size) (LsP [kV (.agg #[.bool sT, .slice aT nT cT, .slice oT mT dT]), kV (.slice (some ⟨bb, bo, none⟩) L bc), kV (.int .i64 (j : Int)), kV (.pointer (some ⟨bb, bo + j * 3, none⟩)), kV (.agg #[.bool r.s, .slice r.ao r.n r.ca, .slice r.bo r.m r.cb]), kQ (QL) (2), kBox 35 W7.heap.size, kAny]) (OneX 35 7 12 88) (fun f => rfl) (by kernel_rfl) (by kernel_rfl) ?_ ?_ ?_ ?_ (AllFrom.below (n := 8) ?_) ?_
            · exact (Below.refl _ _).drew
            · intro f h; cases h
            · intro jx vx w1 w2 _ h hE; exact LsP.ext (StTL.all (l := [kV (.agg #[.bool sT, .slice aT nT cT, .slice oT mT dT]), kV (.slice (some ⟨bb, bo, none⟩) L bc), kV (.int .i64 (j : Int)), kV (.pointer (some ⟨bb, bo + j * 3, none⟩)), kV (.agg #[.bool r.s, .slice r.ao r.n r.ca, .slice r.bo r.m r.cb]), kQ (QL) (2), kBox 35 W7.heap.size, kAny]) ⟨StT.v _ _, StT.v _ _, StT.v _ _, StT.v _ _, StT.v _ _, StT.q (by decide) _ _, StT.box _ _, StT.any _, trivial⟩) jx vx w1 w2 h hE
            · intro w1 w2 hB hE; exact hB.trans hE.1
            · refine AllFrom.step (m := 7) (j := 1) rfl ?_ ?_
              · intro D f w1 hD hB hR hp hcl hX
                obtain ⟨j0, j1, j2⟩ := KT.out w1 hB
                obtain ⟨l0, l1, l2⟩ := KR.out w1 hB
                refine wpOp_step rfl (fun K hK => ?_)
                simp only [putAll, Act.put, List.setIfInBounds_toArray, List.set_cons_succ, List.set_cons_zero]
                go_simp
                exact hK _ _ ⟨.agg #[.bool sT, .slice aT nT cT, .slice oT mT dT], (by show _ = Act.put _ (some 83) _; simp only [putAll, Act.put, List.setIfInBounds_toArray, List.set_cons_succ, List.set_cons_zero, *]), rfl, ExtT.refl _ _ _, fun h => absurd h (no_of (D := D) (hcl 7) (by kernel_rfl) hD)⟩
              refine AllFrom.step (m := 6) (j := 2) rfl ?_ ?_
              · intro D f w1 hD hB hR hp hcl hX
                refine wpOp_step rfl (fun K hK => ?_)
                simp only [putAll, Act.put, List.setIfInBounds_toArray, List.set_cons_succ, List.set_cons_zero]
                go_simp
                exact hK _ _ ⟨.slice (some ⟨bb, bo, none⟩) L bc, (by show _ = Act.put _ (some 84) _; simp only [putAll, Act.put, List.setIfInBounds_toArray, List.set_cons_succ, List.set_cons_zero, *]), rfl, ExtT.refl _ _ _, fun h => absurd h (no_of (D := D) (hcl 7) (by kernel_rfl) hD)⟩
              refine AllFrom.step (m := 5) (j := 3) rfl ?_ ?_
              · intro D f w1 hD hB hR hp hcl hX
                refine wpOp_step rfl (fun K hK => ?_)
                simp only [putAll, Act.put, List.setIfInBounds_toArray, List.set_cons_succ, List.set_cons_zero]
                go_simp
                exact hK _ _ ⟨.int .i64 (j : Int), (by show _ = Act.put _ (some 85) _; simp only [putAll, Act.put, List.setIfInBounds_toArray, List.set_cons_succ, List.set_cons_zero, *]), rfl, ExtT.refl _ _ _, fun h => absurd h (no_of (D := D) (hcl 7) (by kernel_rfl) hD)⟩
              refine AllFrom.step (m := 4) (j := 4) rfl ?_ ?_
              · intro D f w1 hD hB hR hp hcl hX
                have e1 : f 84 = .slice (some ⟨bb, bo, none⟩) L bc := (hp_at hp 1 (by kernel_rfl)).2
                have e2 : f 85 = .int .i64 (j : Int) := (hp_at hp 2 (by kernel_rfl)).2
                refine wpOp_step rfl (fun K hK => ?_)
                simp only [putAll, Act.put, List.setIfInBounds_toArray, List.set_cons_succ, List.set_cons_zero]
                go_simp
                exact hK _ _ ⟨.pointer (some ⟨bb, bo + j * 3, none⟩), (by show _ = Act.put _ (some 86) _; simp only [putAll, Act.put, List.setIfInBounds_toArray, List.set_cons_succ, List.set_cons_zero, *]), rfl, ExtT.refl _ _ _, fun h => absurd h (no_of (D := D) (hcl 7) (by kernel_rfl) hD)⟩
              refine AllFrom.step (m := 3) (j := 5) rfl ?_ ?_
              · intro D f w1 hD hB hR hp hcl hX
                have e3 : f 86 = .pointer (some ⟨bb, bo + j * 3, none⟩) := (hp_at hp 3 (by kernel_rfl)).2
                obtain ⟨j0, j1, j2⟩ := KT.out w1 hB
                obtain ⟨l0, l1, l2⟩ := KR.out w1 hB
                refine wpOp_step rfl (fun K hK => ?_)
                simp only [putAll, Act.put, List.setIfInBounds_toArray, List.set_cons_succ, List.set_cons_zero]
                go_simp
                exact hK _ _ ⟨.agg #[.bool r.s, .slice r.ao r.n r.ca, .slice r.bo r.m r.cb], (by show _ = Act.put _ (some 87) _; simp only [putAll, Act.put, List.setIfInBounds_toArray, List.set_cons_succ, List.set_cons_zero, *]), rfl, ExtT.refl _ _ _, fun h => absurd h (no_of (D := D) (hcl 7) (by kernel_rfl) hD)⟩
              refine AllFrom.step (m := 2) (j := 6) rfl ?_ ?_
              · intro D f w1 hD hB hR hp hcl hX
                have e0 : f 83 = .agg #[.bool sT, .slice aT nT cT, .slice oT mT dT] := (hp_at hp 0 (by kernel_rfl)).2
                have e4 : f 87 = .agg #[.bool r.s, .slice r.ao r.n r.ca, .slice r.bo r.m r.cb] := (hp_at hp 4 (by kernel_rfl)).2
                refine wpOp_step rfl (fun K hK => ?_)
                simp only [putAll, Act.put, List.setIfInBounds_toArray, List.set_cons_succ, List.set_cons_zero]
                go_simp
                refine (SB.out _ hB).mono ?_
                rintro e w2 ⟨s9, a9, n9, c9, o9, m9, d9, rfl, cq0, hb⟩
                have cq := cq0.resize QS.out.1 QS.out.2
                go_simp
                exact hK _ _ ⟨.agg #[.bool s9, .slice a9 n9 c9, .slice o9 m9 d9], (by show _ = Act.put _ (some 88) _; simp only [putAll, Act.put, List.setIfInBounds_toArray, List.set_cons_succ, List.set_cons_zero, *]), ⟨_, _, _, _, _, _, _, rfl, cq.mono (Nat.zero_le _)⟩, ExtT.of_below hb hB.size, fun h => absurd h (no_of (D := D) (hcl 7) (by kernel_rfl) hD)⟩
              refine AllFrom.step (m := 1) (j := 7) rfl ?_ ?_
              · intro D f w1 hD hB hR hp hcl hX
                refine wpOp_step rfl (fun K hK => ?_)
                simp only [putAll, Act.put, List.setIfInBounds_toArray, List.set_cons_succ, List.set_cons_zero]
                go_simp
                exact hK _ _ ⟨.pointer (some ⟨w1.heap.size, 0, none⟩), (by show _ = Act.put _ (some 12) _; simp only [putAll, Act.put, List.setIfInBounds_toArray, List.set_cons_succ, List.set_cons_zero, *]), ⟨w1.heap.size, rfl, hB.size, newBT _ _ _ _ _⟩, ExtT.of_below (below_new _ _) hB.size, fun h => absurd h (no_of (D := D) (hcl 7) (by kernel_rfl) hD)⟩
              refine AllFrom.step (m := 0) (j := 8) rfl ?_ ?_
              · intro D f w1 hD hB hR hp hcl hX
                obtain ⟨g, eg, hg, hb⟩ := (hp_at hp 6 (by kernel_rfl)).2
                obtain ⟨s5, a5, n5, c5, o5, m5, d5, ev, hcq⟩ := (hp_at hp 5 (by kernel_rfl)).2
                replace ev : f 88 = _ := ev
                replace eg : f 12 = _ := eg
                obtain ⟨u0, u1, u2, q0, q1, q2, z0, z1, z2⟩ := hb.facts
                refine wpOp_step rfl (fun K hK => ?_)
                simp only [putAll, Act.put, List.setIfInBounds_toArray, List.set_cons_succ, List.set_cons_zero]
                go_simp
                exact hK _ _ ⟨undef, (by show _ = Act.put _ (none) _; simp only [putAll, Act.put, List.setIfInBounds_toArray, List.set_cons_succ, List.set_cons_zero, *]), trivial, ExtT.set3 hb hg _ _ _, fun _ => by show HoldsT _ _ (f 12) (f 88); rw [eg, ev]; exact HoldsT.new hb _ _ _⟩
              exact AllFrom.nil
            · intro D f w1 hall hB hR hX
              simp only [putAll, Act.put, List.setIfInBounds_toArray, List.set_cons_succ, List.set_cons_zero]
              go_wp2_with fail
              go_meet
              exact box_cut hB (hR 6 (by decide)) (hX (hall 7 (by decide))) (hR 5 (by decide))
        case rest =>
          rename World => W8
          obtain ⟨g2, s2, a2, n2, c2, o2, m2, d2, rfl, hg2, x2, cq2, b2⟩ := hcut
          have hown8 := Lib.hid (row_below hown.out b2)
          have hinc8 := Lib.hid (hinc.out.below b2)
          have HB8 : Hid (Below gi W4 W8) := hbl.out.trans (b2.mono (Nat.le_of_lt hwg))
          have hwg8 : Hid (gi < W8.heap.size) := Nat.lt_of_lt_of_le hwg b2.size
          have hg2i : Hid (g2 ≠ gi) := by unfold Hid; omega
          have X2 := Lib.hid x2
          have CQ2 := Lib.hid cq2
          obtain ⟨hra, hrc⟩ := HR.out W8 HB8.out
          obtain ⟨l0, l1, l2⟩ := hra
          have S1 := Lib.hid (SP.out W8 (by rw [← HGI.out]; exact HB8.out) j hlt _ _ _ _ _ _ _ 2 _ (by omega) hrc.rq (fq_ge PT.out.ab.1 hPB.out.1) (fq_lt PT.out.ab.1 hPB.out.1 hPB.out.2.1))
          clear b2 x2 cq2 hrc hown hinc hbl KT KR SB x7 cq7 hg2 hwg
          go_wp2_with fail
          refine S1.out.mono ?_; rintro e W9 ⟨a1, c1, rfl, hz1', b9⟩
          have hown9 := Lib.hid (row_below hown8.out b9)
          have hinc9 := Lib.hid (hinc8.out.below b9)
          have HB9 : Hid (Below gi W4 W9) := HB8.out.trans (b9.mono (Nat.le_of_lt hwg8.out))
          have hwg9 : Hid (gi < W9.heap.size) := Nat.lt_of_lt_of_le hwg8.out b9.size
          have X9 := Lib.hid (carry X2.out b9)
          have CQ9 := Lib.hid (CQ2.out.below b9)
          have HZ9 := Lib.hid hz1'
          have KR : Hid (∀ w', Below W9.heap.size W9 w' → At3 w' bb (bo + j * 3) r) := fun w' hb => (HR.out w' (HB9.out.trans (hb.mono (Nat.le_of_lt hwg9.out)))).1
          have KL : Hid (∀ w', Below W9.heap.size W9 w' → w'.cell? ⟨g2, 0, none⟩ = some (.bool s2) ∧ w'.cell? ⟨g2, 1, none⟩ = some (.slice a2 n2 c2) ∧ w'.cell? ⟨g2, 2, none⟩ = some (.slice o2 m2 d2)) := fun w' hb => by
            obtain ⟨k0, k1, k2, _⟩ := at_block (carry X9.out hb)
            exact ⟨k0, k1, k2⟩
          have ML : Hid (∀ w', Below W9.heap.size W9 w' → ∀ t po n' ca' qo l cb', RQ w' t po n' ca' qo l cb' (fq 1 2) 2 → Calls Tryz.prog 21 #[.agg #[.bool s2, .slice a2 n2 c2, .slice o2 m2 d2], .agg #[.bool t, .slice po n' ca', .slice qo l cb']] w' (MakesQ (QL * fq 1 2) (2 + 2 + 1) w')) := fun w' hb t po n' ca' qo l cb' h1 =>
            rMul_q _ _ _ _ _ _ _ _ _ _ _ _ _ _ 2 _ _ w' (CQ9.out.below hb).rq h1 (by omega)
          have AD : Hid (∀ w', Below W9.heap.size W9 w' → ∀ t po n' ca' qo l cb', RQ w' t po n' ca' qo l cb' (QL * fq 1 2) (2 + 2 + 1) → Calls Tryz.prog 20 #[.agg #[.bool r.s, .slice r.ao r.n r.ca, .slice r.bo r.m r.cb], .agg #[.bool t, .slice po n' ca', .slice qo l cb']] w' (MakesQ (fq (bd j) A + QL * fq 1 2) (2 + 2 + 1 + (2 + 2 + 1) + 1) w')) := fun w' hb t po n' ca' qo l cb' h1 =>
            rAdd_q _ _ _ _ _ _ _ _ _ _ _ _ _ _ (2 + 2 + 1) _ _ w' ((HR.out w' (HB9.out.trans (hb.mono (Nat.le_of_lt hwg9.out)))).2.rq.up (by omega) (by omega)) h1 (by omega)
          have SM : Hid (∀ w', Below W9.heap.size W9 w' → ∀ t po n' ca' qo l cb', RQ w' t po n' ca' qo l cb' (fq (bd j) A + QL * fq 1 2) (2 + 2 + 1 + (2 + 2 + 1) + 1) → Calls Tryz.prog 7 #[.slice la N lc, .int .i64 (m : Int), .agg #[.bool t, .slice po n' ca', .slice qo l cb']] w' fun e w'' => ∃ a c, e = .returned (.tuple #[.slice a m c, .int .i64 0]) ∧ RdZ w'' a c (iz (DB j)) ∧ Below w'.heap.size w' w'') := fun w' hb t po n' ca' qo l cb' h1 => by
            have mp := mid_part (b := bd j) (l := ln j) (A := A) PT.out.ab.1 hPB.out.1 hlnb.out.1
            rw [← HQL.out, show bd j + ln j = bd (j + 1) by rw [PT.out.hln j]; omega] at mp
            exact SP.out w' (by rw [← HGI.out]; exact HB9.out.trans (hb.mono (Nat.le_of_lt hwg9.out))) j hlt _ _ _ _ _ _ _ (2 + 2 + 1 + (2 + 2 + 1) + 1) _ (by omega) h1 mp.1 mp.2
          clear l0 l1 l2 b9 hz1' S1 hown8 hinc8 HB8 hwg8 X2 CQ2
          go_upto_region 15 with fail
          refine wp_region_held_drew (S := fun w' => Below W9.heap.size W9 w') (by kernel_rfl) ((Below.refl _ _).drew) (fun hH => ?_)
          refine wpAnyH_take (i := 0) (v := (.slice la N lc)) rfl (by kernel_rfl) (by kernel_rfl) (by kernel_rfl) (fun _ _ _ h => h) (Or.inl ⟨by kernel_rfl, ?_⟩) hH ?_
          · intro w1 hB
            go_simp
          change wpAnyH _ _ _ _ _ _ _ (Act.put _ (some 100) _) _
          try simp only [Act.put, List.setIfInBounds_toArray, List.set_cons_zero, List.set_cons_succ]
          refine wpAnyH_take (i := 1) (v := (.int .i64 (m : Int))) rfl (by kernel_rfl) (by kernel_rfl) (by kernel_rfl) (fun _ _ _ h => h) (Or.inl ⟨by kernel_rfl, ?_⟩) hH ?_
          · intro w1 hB
            go_simp
          change wpAnyH _ _ _ _ _ _ _ (Act.put _ (some 101) _) _
          try simp only [Act.put, List.setIfInBounds_toArray, List.set_cons_zero, List.set_cons_succ]
          refine wpAnyH_take (i := 2) (v := (.slice (some ⟨bb, bo, none⟩) L bc)) rfl (by kernel_rfl) (by kernel_rfl) (by kernel_rfl) (fun _ _ _ h => h) (Or.inl ⟨by kernel_rfl, ?_⟩) hH ?_
          · intro w1 hB
            go_simp
          change wpAnyH _ _ _ _ _ _ _ (Act.put _ (some 102) _) _
          try simp only [Act.put, List.setIfInBounds_toArray, List.set_cons_zero, List.set_cons_succ]
          refine wpAnyH_take (i := 3) (v := (.int .i64 (j : Int))) rfl (by kernel_rfl) (by kernel_rfl) (by kernel_rfl) (fun _ _ _ h => h) (Or.inl ⟨by kernel_rfl, ?_⟩) hH ?_
          · intro w1 hB
            go_simp
          change wpAnyH _ _ _ _ _ _ _ (Act.put _ (some 103) _) _
          try simp only [Act.put, List.setIfInBounds_toArray, List.set_cons_zero, List.set_cons_succ]
          refine wpAnyH_take (i := 4) (v := (.pointer (some ⟨bb, bo + j * 3, none⟩))) rfl (by kernel_rfl) (by kernel_rfl) (by kernel_rfl) (fun _ _ _ h => h) (Or.inl ⟨by kernel_rfl, ?_⟩) hH ?_
          · intro w1 hB
            go_simp
          change wpAnyH _ _ _ _ _ _ _ (Act.put _ (some 104) _) _
          try simp only [Act.put, List.setIfInBounds_toArray, List.set_cons_zero, List.set_cons_succ]
          refine wpAnyH_take (i := 5) (v := (.agg #[.bool r.s, .slice r.ao r.n r.ca, .slice r.bo r.m r.cb])) rfl (by kernel_rfl) (by kernel_rfl) (by kernel_rfl) (fun _ _ _ h => h) (Or.inl ⟨by kernel_rfl, ?_⟩) hH ?_
          · intro w1 hB
            obtain ⟨l0, l1, l2⟩ := KR.out w1 hB
            obtain ⟨k0, k1, k2⟩ := KL.out w1 hB
            go_simp
          change wpAnyH _ _ _ _ _ _ _ (Act.put _ (some 105) _) _
          try simp only [Act.put, List.setIfInBounds_toArray, List.set_cons_zero, List.set_cons_succ]
          refine wpAnyH_take (i := 6) (v := (.agg #[.bool s2, .slice a2 n2 c2, .slice o2 m2 d2])) rfl (by kernel_rfl) (by kernel_rfl) (by kernel_rfl) (fun _ _ _ h => h) (Or.inl ⟨by kernel_rfl, ?_⟩) hH ?_
          · intro w1 hB
            obtain ⟨l0, l1, l2⟩ := KR.out w1 hB
            obtain ⟨k0, k1, k2⟩ := KL.out w1 hB
            go_simp
          change wpAnyH _ _ _ _ _ _ _ (Act.put _ (some 106) _) _
          try simp only [Act.put, List.setIfInBounds_toArray, List.set_cons_zero, List.set_cons_succ]
          refine wpAnyH_ready (rs := [7]) (by kernel_rfl) (by simp) ?_
          refine AllReadyH.cons rfl (fun K hK => ?_) AllReadyH.nil
          go_simp
          refine (HF.out _).mono ?_
          rintro e V7 ⟨sx, ax, nx, cx, ox, mx, dx, rfl, cqx, v7⟩
          try go_simp
          refine hK.out _ _ (keepB v7 hH (Nat.le_refl _)) (fun hH7 => ?_)
          clear hK K
          try simp only [Act.put, List.setIfInBounds_toArray, List.set_cons_zero, List.set_cons_succ]
          refine wpAnyH_ready (rs := [8]) (by kernel_rfl) (by simp) ?_
          refine AllReadyH.cons rfl (fun K hK => ?_) AllReadyH.nil
          go_simp
          refine (ML.out _ hH7 _ _ _ _ _ _ _ cqx.rq).mono ?_
          rintro e V8 ⟨sy, ay, ny, cy, oy, my, dy, rfl, cqy, v8⟩
          try go_simp
          refine hK.out _ _ (keepB v8 hH7 (Nat.le_refl _)) (fun hH8 => ?_)
          clear hK K
          try simp only [Act.put, List.setIfInBounds_toArray, List.set_cons_zero, List.set_cons_succ]
          refine wpAnyH_ready (rs := [9]) (by kernel_rfl) (by simp) ?_
          refine AllReadyH.cons rfl (fun K hK => ?_) AllReadyH.nil
          go_simp
          refine (AD.out _ hH8 _ _ _ _ _ _ _ cqy.rq).mono ?_
          rintro e V9 ⟨sz, az, nz, cz, oz, mz, dz, rfl, cqz, v9⟩
          try go_simp
          refine hK.out _ _ (keepB v9 hH8 (Nat.le_refl _)) (fun hH9 => ?_)
          clear hK K
          try simp only [Act.put, List.setIfInBounds_toArray, List.set_cons_zero, List.set_cons_succ]
          refine wpAnyH_ready (rs := [10]) (by kernel_rfl) (by simp) ?_
          refine AllReadyH.cons rfl (fun K hK => ?_) AllReadyH.nil
          go_simp
          refine (SM.out _ hH9 _ _ _ _ _ _ _ cqz.rq).mono ?_
          rintro e V10 ⟨aS, cS, rfl, hzS, v10⟩
          try go_simp
          refine hK.out _ _ (keepB v10 hH9 (Nat.le_refl _)) (fun hH10 => ?_)
          clear hK K
          try simp only [Act.put, List.setIfInBounds_toArray, List.set_cons_zero, List.set_cons_succ]
          refine wpAnyH_take (i := 11) (v := (.tuple #[.slice aS m cS, .int .i64 0])) rfl (by kernel_rfl) (by kernel_rfl) (by kernel_rfl) (fun _ _ _ h => h) (Or.inl ⟨by kernel_rfl, ?_⟩) hH10 ?_
          · intro w1 hB
            go_simp
          change wpAnyH _ _ _ _ _ _ _ (Act.put _ (some 99) _) _
          try simp only [Act.put, List.setIfInBounds_toArray, List.set_cons_zero, List.set_cons_succ]
          refine wpAnyH_take (i := 12) (v := (.slice aS m cS)) rfl (by kernel_rfl) (by kernel_rfl) (by kernel_rfl) (fun _ _ _ h => h) (Or.inl ⟨by kernel_rfl, ?_⟩) hH10 ?_
          · intro w1 hB
            go_simp
          change wpAnyH _ _ _ _ _ _ _ (Act.put _ (some 111) _) _
          try simp only [Act.put, List.setIfInBounds_toArray, List.set_cons_zero, List.set_cons_succ]
          refine wpAnyH_take (i := 14) (v := (.slice aS m cS)) rfl (by kernel_rfl) (by kernel_rfl) (by kernel_rfl) (fun _ _ _ h => h) (Or.inl ⟨by kernel_rfl, ?_⟩) hH10 ?_
          · intro w1 hB
            go_simp
          change wpAnyH _ _ _ _ _ _ _ (Act.put _ (some 15) _) _
          try simp only [Act.put, List.setIfInBounds_toArray, List.set_cons_zero, List.set_cons_succ]
          refine wpAnyH_take (i := 13) (v := (.int .i64 0)) rfl (by kernel_rfl) (by kernel_rfl) (by kernel_rfl) (fun _ _ _ h => h) (Or.inl ⟨by kernel_rfl, ?_⟩) hH10 ?_
          · intro w1 hB
            go_simp
          change wpAnyH _ _ _ _ _ _ _ (Act.put _ (some 112) _) _
          try simp only [Act.put, List.setIfInBounds_toArray, List.set_cons_zero, List.set_cons_succ]
          refine wpAnyH_take (i := 15) (v := (.int .i64 0)) rfl (by kernel_rfl) (by kernel_rfl) (by kernel_rfl) (fun _ _ _ h => h) (Or.inl ⟨by kernel_rfl, ?_⟩) hH10 ?_
          · intro w1 hB
            go_simp
          change wpAnyH _ _ _ _ _ _ _ (Act.put _ (some 16) _) _
          try simp only [Act.put, List.setIfInBounds_toArray, List.set_cons_zero, List.set_cons_succ]
          refine wpAnyH_done (by kernel_rfl) ?_ _
          have BV : Below W9.heap.size W9 V10 := hH10
          have HZS := Lib.hid hzS
          have hownA := Lib.hid (row_below hown9.out BV)
          have hincA := Lib.hid (hinc9.out.below BV)
          have HBA : Hid (Below gi W4 V10) := HB9.out.trans (BV.mono (Nat.le_of_lt hwg9.out))
          have hwgA : Hid (gi < V10.heap.size) := Nat.lt_of_lt_of_le hwg9.out BV.size
          have XA := Lib.hid (carry X9.out BV)
          have CQA := Lib.hid (CQ9.out.below BV)
          have HZA : Hid (RdZ V10 a1 c1 (iz (DB j))) := HZ9.out.below BV
          obtain ⟨k0, k1, k2, _⟩ := at_block XA.out
          have SG := rSign_q _ _ _ _ _ _ _ 2 QL V10 CQA.out.rq
          rw [hSgn.out] at SG
          have SG := Lib.hid SG
          clear BV hzS hown9 hinc9 HB9 hwg9 X9 CQ9 HZ9 KR KL ML AD SM cqx cqy cqz
          go_wp2_with fail
          refine SG.out.mono ?_; rintro e V11 ⟨rfl, b11⟩
          have SI := Lib.hid (Same_l3 (L := m) (by rw [iz_len]; exact (PT.out.db j hlt).symm) (HZA.out.below b11) (HZS.out.below b11))
          clear k0 k1 k2 SG
          go_wp2_with fail
          refine SI.out.mono ?_; rintro e V12 ⟨rfl, b12⟩
          have BB := b11.trans (b12.mono b11.size)
          obtain ⟨X0, hX0⟩ : ∃ X, X = V12 := ⟨_, rfl⟩
          have hown0 : Hid (X0.ownsRow gi 35 3 (.slice (some ⟨gi, 0, none⟩) N N) N (rvs rs)) := by rw [hX0]; exact row_below hownA.out BB
          have hinc0 : Hid (Inc V12 N rs (fun u => some (fq (ac u j + if u ∈ (DB j).take 0 then ln j else 0) A))) := (hincA.out.below BB).cg (fun u _ => by simp)
          have HB0 : Hid (Below gi W4 X0) := by rw [hX0]; exact HBA.out.trans (BB.mono (Nat.le_of_lt hwgA.out))
          have hwg0 : Hid (gi < X0.heap.size) := by rw [hX0]; exact Nat.lt_of_lt_of_le hwgA.out BB.size
          have XX0 : Hid (X0.heap[g2]? = some (.cells #[.bool s2, .slice a2 n2 c2, .slice o2 m2 d2] 35 (0, 0))) := by rw [hX0]; exact carry XA.out BB
          have CQ0 : Hid (CQ 0 X0 s2 a2 n2 c2 o2 m2 d2 QL 2) := by rw [hX0]; exact CQA.out.below BB
          have HZ0 : Hid (RdZ X0 a1 c1 (iz (DB j))) := by rw [hX0]; exact HZA.out.below BB
          have hrow0 : Hid (V12.ownsRow gi 35 3 (.slice (some ⟨gi, 0, none⟩) N N) N (rvs rs)) := by rw [← hX0]; exact hown0.out
          have hgb0 : Hid (X0.grownBy V12 (some gi)) := by rw [hX0]; exact World.grownBy.refl _ _
          have hm1c : m ≤ c1 := by have := HZ0.out.1; rw [intz_length, iz_len, PT.out.db j hlt] at this; exact this
          have hm1c2 := HZ0.out.2.1
          have hm19 : m ≤ 19 := by omega
          have HNE := Lib.hid (rdz_ne HZ0.out hown0.out)
          have HDL := Lib.hid (PT.out.db j hlt)
          clear b11 b12 BB hownA hincA HBA hwgA XA CQA HZA HZS SI hX0
          go_wp2_with fail
          go_loopw [132] (fun s132 wi => ∃ (i : Nat) (rs : List RV), i ≤ m ∧ s132 = .int .i64 (i : Int) ∧ Hid (wi.ownsRow gi 35 3 (.slice (some ⟨gi, 0, none⟩) N N) N (rvs rs)) ∧ Hid (Inc wi N rs (fun u => some (fq (ac u j + if u ∈ (DB j).take i then ln j else 0) A))) ∧ Hid (X0.grownBy wi (some gi))) (fun s132 _ => m - (intOf s132).toNat)
          case atStart => exact ⟨0, _, by omega, rfl, hrow0, hinc0, hgb0⟩
          case round =>
            obtain ⟨i, rs, him, rfl, hown, hinc, hgb⟩ := hrel
            by_cases hli : i < m
            · have hli2 : (i : Int) < (m : Int) := by omega
              obtain ⟨b, o, rfl, kx⟩ := RdV.atZ (rdv_gb HZ0.out HNE.out hgb.out) (show i < (iz (DB j)).length by rw [iz_len, HDL.out]; exact hli)
              rw [iz_getD] at kx
              obtain ⟨u, hu⟩ : ∃ u, u = (DB j).getD i 0 := ⟨_, rfl⟩
              have huN : u < N := by rw [hu]; exact PT.out.dlt j hlt i hli
              have hdup : u ∉ (DB j).take i := by rw [hu]; exact PT.out.dup j hlt i hli
              rw [← hu] at kx
              have hu0 : decide ((u : Int) < 0) = false := decide_eq_false (by omega)
              have hu1 : decide ((N : Int) ≤ (u : Int)) = false := decide_eq_false (by omega)
              have huI : (u : Int) < (N : Int) := by omega
              have hic : i < c1 := by omega
              have hrl : rs.length = N := hinc.out.1
              obtain ⟨ru, hru⟩ : ∃ r, r = rs.getD u RV.nil := ⟨_, rfl⟩
              have hqu := hinc.out.at huN
              rw [if_neg hdup, Int.add_zero, ← hru] at hqu
              have hq2 := CQ0.out.keepRow3 hown0.out hgb.out
              obtain ⟨QN, hQN⟩ : ∃ q, q = fq (ac u j + ln j) A := ⟨_, rfl⟩
              have hab := PT.out.acb u j (by omega)
              have hsum : fq (ac u j) A + QL = QN := by rw [HQL.out, fq_add PT.out.ab.1 hab.1 (by have := hlnb.out; omega), hQN]
              have hnext := PT.out.acb u (j + 1) (by omega)
              have hin : u ∈ DB j := List.mem_of_getElem (i := i) (h := by rw [HDL.out]; exact hli) (by rw [hu]; simp [List.getD, show i < (DB j).length by rw [HDL.out]; exact hli])
              rw [PT.out.acs u j, if_pos hin] at hnext
              have QU : Hid (Sm (rn QN) 2 ∧ Sm QN.den 2) := by rw [hQN]; exact fq_sm PT.out.ab.1 PT.out.ab.2 hnext.1 (by have := PT.out.ab; omega)
              have KU : Hid (∀ w', Below wr.heap.size wr w' → w'.cell? ⟨gi, u * 3, none⟩ = some (.bool ru.s) ∧ w'.cell? ⟨gi, u * 3 + 1, none⟩ = some (.slice ru.ao ru.n ru.ca) ∧ w'.cell? ⟨gi, u * 3 + 2, none⟩ = some (.slice ru.bo ru.m ru.cb)) := fun w' hb => by
                have hrow := row_below hown.out hb
                obtain ⟨v0, v1, v2⟩ := rvs_at rs u (by omega)
                rw [← hru] at v0 v1 v2
                exact ⟨(hrow.cellAt (u * 3) (by omega)).trans v0, (hrow.cellAt (u * 3 + 1) (by omega)).trans v1, (hrow.cellAt (u * 3 + 2) (by omega)).trans v2⟩
              have xr : wr.heap[g2]? = some (.cells #[.bool s2, .slice a2 n2 c2, .slice o2 m2 d2] 35 (0, 0)) := (hgb.out.block g2 (Array.getElem?_eq_some_iff.1 XX0.out).1 (fun e => hg2i.out (Option.some.inj e))).trans XX0.out
              have KL : Hid (∀ w', Below wr.heap.size wr w' → w'.cell? ⟨g2, 0, none⟩ = some (.bool s2) ∧ w'.cell? ⟨g2, 1, none⟩ = some (.slice a2 n2 c2) ∧ w'.cell? ⟨g2, 2, none⟩ = some (.slice o2 m2 d2)) := fun w' hb => by
                obtain ⟨k0, k1, k2, _⟩ := at_block (carry xr hb)
                exact ⟨k0, k1, k2⟩
              have AU : Hid (∀ w', Below wr.heap.size wr w' → Calls Tryz.prog 20 #[.agg #[.bool ru.s, .slice ru.ao ru.n ru.ca, .slice ru.bo ru.m ru.cb], .agg #[.bool s2, .slice a2 n2 c2, .slice o2 m2 d2]] w' (MakesQ QN (2 + 2 + 1) w')) := fun w' hb => by
                rw [← hsum]
                exact rAdd_q _ _ _ _ _ _ _ _ _ _ _ _ _ _ 2 _ _ w' (hqu.below hb).rq (hq2.below hb).rq (by omega)
              have hgiw : gi < wr.heap.size := (hown.out.lt gi rfl).2
              have HU := Lib.hid hu
              have HQN := Lib.hid hQN
              clear hu hru hqu hq2 hQN hab hsum hnext hin xr hdup
              go_upto_region 23 with fail
              clear kx
              refine wp_region_any (by kernel_rfl) ?_
              refine region_ssa [144, 145, 146, 147, 148, 149, 150, 151, 152] (fun w1 => wr.grownBy w1 (some gi)) (fun w1 w2 => w1.grownBy w2 (some gi)) (LsG [fun v _ => v = .slice (some ⟨gi, 0, none⟩) N N, fun v _ => v = .int .i64 (u : Int), fun v _ => v = .slice (some ⟨gi, 0, none⟩) N N, fun v _ => v = .int .i64 (u : Int), fun v _ => v = .pointer (some ⟨gi, u * 3, none⟩), fun v _ => v = .agg #[.bool ru.s, .slice ru.ao ru.n ru.ca, .slice ru.bo ru.m ru.cb], fun v _ => v = .agg #[.bool s2, .slice a2 n2 c2, .slice o2 m2 d2], kCQ wr.heap.size QN, fun v _ => v = .pointer (some ⟨gi, u * 3, none⟩), fun _ _ => True]) (fun D _ w1 => (D 9 = false → Below wr.heap.size wr w1) ∧ (D 9 = true → ∃ r9 : RV, w1.ownsRow gi 35 3 (.slice (some ⟨gi, 0, none⟩) N N) N (rvs (rs.set u r9)) ∧ CQ wr.heap.size w1 r9.s r9.ao r9.n r9.ca r9.bo r9.m r9.cb QN 2)) (fun f => rfl) (by kernel_rfl) (by kernel_rfl) ?_ ?_ ?_ ?_ (AllF.below (n := 10) ?_) ?_
              · exact ⟨rfl, rfl, rfl, Nat.le_refl _, fun _ _ _ => rfl⟩
              · intro f; exact ⟨fun _ => (Below.refl _ _).drew, fun h => by cases h⟩
              · intro jx vx w1 w2 _ h hE; exact LsG.ext (StGL.all (l := [fun v _ => v = .slice (some ⟨gi, 0, none⟩) N N, fun v _ => v = .int .i64 (u : Int), fun v _ => v = .slice (some ⟨gi, 0, none⟩) N N, fun v _ => v = .int .i64 (u : Int), fun v _ => v = .pointer (some ⟨gi, u * 3, none⟩), fun v _ => v = .agg #[.bool ru.s, .slice ru.ao ru.n ru.ca, .slice ru.bo ru.m ru.cb], fun v _ => v = .agg #[.bool s2, .slice a2 n2 c2, .slice o2 m2 d2], kCQ wr.heap.size QN, fun v _ => v = .pointer (some ⟨gi, u * 3, none⟩), fun _ _ => True]) ⟨StG.val _ _, StG.val _ _, StG.val _ _, StG.val _ _, StG.val _ _, StG.val _ _, StG.val _ _, StG.cq hgiw _, StG.val _ _, StG.triv _, trivial⟩) jx vx w1 w2 h hE
              · intro w1 w2 hB hE; exact gb_trans hB hE
              · refine AllF.step (m := 9) (j := 1) rfl ?_ ?_
                · intro D f w1 hD hB hR hp hcl hX
                  have HX := Lib.hid hX
                  have HC := Lib.hid hcl
                  have HB := Lib.hid hB
                  have HD := Lib.hid hD
                  clear hX hcl hB hD hR hp
                  refine wpOp_step rfl (fun K hK => ?_)
                  simp only [putAll, Act.put, List.setIfInBounds_toArray, List.set_cons_succ, List.set_cons_zero]
                  go_simp
                  exact hK _ _ ⟨.slice (some ⟨gi, 0, none⟩) N N, (by show _ = Act.put _ (some 144) _; simp only [putAll, Act.put, List.setIfInBounds_toArray, List.set_cons_succ, List.set_cons_zero, *]; all_goals rfl), rfl, World.grownBy.refl _ _, HX.out⟩
                refine AllF.step (m := 8) (j := 2) rfl ?_ ?_
                · intro D f w1 hD hB hR hp hcl hX
                  have HX := Lib.hid hX
                  have HC := Lib.hid hcl
                  have HB := Lib.hid hB
                  have HD := Lib.hid hD
                  clear hX hcl hB hD hR hp
                  refine wpOp_step rfl (fun K hK => ?_)
                  simp only [putAll, Act.put, List.setIfInBounds_toArray, List.set_cons_succ, List.set_cons_zero]
                  go_simp
                  exact hK _ _ ⟨.int .i64 (u : Int), (by show _ = Act.put _ (some 145) _; simp only [putAll, Act.put, List.setIfInBounds_toArray, List.set_cons_succ, List.set_cons_zero, *]; all_goals rfl), rfl, World.grownBy.refl _ _, HX.out⟩
                refine AllF.step (m := 7) (j := 3) rfl ?_ ?_
                · intro D f w1 hD hB hR hp hcl hX
                  have HX := Lib.hid hX
                  have HC := Lib.hid hcl
                  have HB := Lib.hid hB
                  have HD := Lib.hid hD
                  clear hX hcl hB hD hR hp
                  refine wpOp_step rfl (fun K hK => ?_)
                  simp only [putAll, Act.put, List.setIfInBounds_toArray, List.set_cons_succ, List.set_cons_zero]
                  go_simp
                  exact hK _ _ ⟨.slice (some ⟨gi, 0, none⟩) N N, (by show _ = Act.put _ (some 146) _; simp only [putAll, Act.put, List.setIfInBounds_toArray, List.set_cons_succ, List.set_cons_zero, *]; all_goals rfl), rfl, World.grownBy.refl _ _, HX.out⟩
                refine AllF.step (m := 6) (j := 4) rfl ?_ ?_
                · intro D f w1 hD hB hR hp hcl hX
                  have HX := Lib.hid hX
                  have HC := Lib.hid hcl
                  have HB := Lib.hid hB
                  have HD := Lib.hid hD
                  clear hX hcl hB hD hR hp
                  refine wpOp_step rfl (fun K hK => ?_)
                  simp only [putAll, Act.put, List.setIfInBounds_toArray, List.set_cons_succ, List.set_cons_zero]
                  go_simp
                  exact hK _ _ ⟨.int .i64 (u : Int), (by show _ = Act.put _ (some 147) _; simp only [putAll, Act.put, List.setIfInBounds_toArray, List.set_cons_succ, List.set_cons_zero, *]; all_goals rfl), rfl, World.grownBy.refl _ _, HX.out⟩
                refine AllF.step (m := 5) (j := 5) rfl ?_ ?_
                · intro D f w1 hD hB hR hp hcl hX
                  have e2 : f 146 = .slice (some ⟨gi, 0, none⟩) N N := (hpAt hp 2 (by kernel_rfl)).2
                  have e3 : f 147 = .int .i64 (u : Int) := (hpAt hp 3 (by kernel_rfl)).2
                  have HX := Lib.hid hX
                  have HC := Lib.hid hcl
                  have HB := Lib.hid hB
                  have HD := Lib.hid hD
                  clear hX hcl hB hD hR hp
                  refine wpOp_step rfl (fun K hK => ?_)
                  simp only [putAll, Act.put, List.setIfInBounds_toArray, List.set_cons_succ, List.set_cons_zero]
                  go_simp
                  exact hK _ _ ⟨.pointer (some ⟨gi, u * 3, none⟩), (by show _ = Act.put _ (some 148) _; simp only [putAll, Act.put, List.setIfInBounds_toArray, List.set_cons_succ, List.set_cons_zero, *]; all_goals rfl), rfl, World.grownBy.refl _ _, HX.out⟩
                refine AllF.step (m := 4) (j := 6) rfl ?_ ?_
                · intro D f w1 hD hB hR hp hcl hX
                  have e4 : f 148 = .pointer (some ⟨gi, u * 3, none⟩) := (hpAt hp 4 (by kernel_rfl)).2
                  have hj : D 9 = false := noF (hcl 9) (by kernel_rfl) (noF (j := 7) (hcl 7) (by kernel_rfl) hD)
                  obtain ⟨j0, j1, j2⟩ := KU.out w1 (hX.1 hj)
                  have HX := Lib.hid hX
                  have HC := Lib.hid hcl
                  have HB := Lib.hid hB
                  have HD := Lib.hid hD
                  clear hX hcl hB hD hR hp
                  refine wpOp_step rfl (fun K hK => ?_)
                  simp only [putAll, Act.put, List.setIfInBounds_toArray, List.set_cons_succ, List.set_cons_zero]
                  go_simp
                  exact hK _ _ ⟨.agg #[.bool ru.s, .slice ru.ao ru.n ru.ca, .slice ru.bo ru.m ru.cb], (by show _ = Act.put _ (some 149) _; simp only [putAll, Act.put, List.setIfInBounds_toArray, List.set_cons_succ, List.set_cons_zero, *]; all_goals rfl), rfl, World.grownBy.refl _ _, HX.out⟩
                refine AllF.step (m := 3) (j := 7) rfl ?_ ?_
                · intro D f w1 hD hB hR hp hcl hX
                  have hj : D 9 = false := noF (hcl 9) (by kernel_rfl) (noF (j := 7) (hcl 7) (by kernel_rfl) hD)
                  obtain ⟨j0, j1, j2⟩ := KL.out w1 (hX.1 hj)
                  have HX := Lib.hid hX
                  have HC := Lib.hid hcl
                  have HB := Lib.hid hB
                  have HD := Lib.hid hD
                  clear hX hcl hB hD hR hp
                  refine wpOp_step rfl (fun K hK => ?_)
                  simp only [putAll, Act.put, List.setIfInBounds_toArray, List.set_cons_succ, List.set_cons_zero]
                  go_simp
                  exact hK _ _ ⟨.agg #[.bool s2, .slice a2 n2 c2, .slice o2 m2 d2], (by show _ = Act.put _ (some 150) _; simp only [putAll, Act.put, List.setIfInBounds_toArray, List.set_cons_succ, List.set_cons_zero, *]; all_goals rfl), rfl, World.grownBy.refl _ _, HX.out⟩
                refine AllF.step (m := 2) (j := 8) rfl ?_ ?_
                · intro D f w1 hD hB hR hp hcl hX
                  have e5 : f 149 = .agg #[.bool ru.s, .slice ru.ao ru.n ru.ca, .slice ru.bo ru.m ru.cb] := (hpAt hp 5 (by kernel_rfl)).2
                  have e6 : f 150 = .agg #[.bool s2, .slice a2 n2 c2, .slice o2 m2 d2] := (hpAt hp 6 (by kernel_rfl)).2
                  have hj : D 9 = false := noF (hcl 9) (by kernel_rfl) hD
                  have HJ : Hid (upd D 7 9 = false) := hj
                  have HB1 := Lib.hid (hX.1 hj)
                  have hs1 : Hid (wr.heap.size ≤ w1.heap.size) := hB.size
                  have HX := Lib.hid hX
                  have HC := Lib.hid hcl
                  have HB := Lib.hid hB
                  have HD := Lib.hid hD
                  clear hX hcl hB hD hR hp
                  refine wpOp_step rfl (fun K hK => ?_)
                  simp only [putAll, Act.put, List.setIfInBounds_toArray, List.set_cons_succ, List.set_cons_zero]
                  go_simp
                  refine (AU.out w1 HB1.out).mono ?_; rintro e w2 ⟨s9, a9, n9, c9, o9, m9, d9, rfl, cq0, b2⟩
                  have cq := cq0.resize QU.out.1 QU.out.2
                  go_simp
                  refine hK _ _ ⟨.agg #[.bool s9, .slice a9 n9 c9, .slice o9 m9 d9], (by show _ = Act.put _ (some 151) _; simp only [putAll, Act.put, List.setIfInBounds_toArray, List.set_cons_succ, List.set_cons_zero, *]; all_goals rfl), ⟨s9, a9, n9, c9, o9, m9, d9, rfl, cq.mono hs1.out⟩, C6.below_gb b2 _, ⟨fun _ => ?_, fun h => ?_⟩⟩
                  · exact HB1.out.trans (b2.mono HB1.out.size)
                  · rw [HJ.out] at h; cases h
                refine AllF.step (m := 1) (j := 9) rfl ?_ ?_
                · intro D f w1 hD hB hR hp hcl hX
                  have e0 : f 144 = .slice (some ⟨gi, 0, none⟩) N N := (hpAt hp 0 (by kernel_rfl)).2
                  have e1 : f 145 = .int .i64 (u : Int) := (hpAt hp 1 (by kernel_rfl)).2
                  have HX := Lib.hid hX
                  have HC := Lib.hid hcl
                  have HB := Lib.hid hB
                  have HD := Lib.hid hD
                  clear hX hcl hB hD hR hp
                  refine wpOp_step rfl (fun K hK => ?_)
                  simp only [putAll, Act.put, List.setIfInBounds_toArray, List.set_cons_succ, List.set_cons_zero]
                  go_simp
                  exact hK _ _ ⟨.pointer (some ⟨gi, u * 3, none⟩), (by show _ = Act.put _ (some 152) _; simp only [putAll, Act.put, List.setIfInBounds_toArray, List.set_cons_succ, List.set_cons_zero, *]; all_goals rfl), rfl, World.grownBy.refl _ _, HX.out⟩
                refine AllF.step (m := 0) (j := 10) rfl ?_ ?_
                · intro D f w1 hD hB hR hp hcl hX
                  have e8 : f 152 = .pointer (some ⟨gi, u * 3, none⟩) := (hpAt hp 8 (by kernel_rfl)).2
                  obtain ⟨s9, a9, n9, c9, o9, m9, d9, e9, q9⟩ := (hpAt hp 7 (by kernel_rfl)).2
                  replace e9 : f 151 = _ := e9
                  have hrow := row_below hown.out (hX.1 hD)
                  obtain ⟨v0, hv0⟩ : ∃ v, w1.cell? ⟨gi, u * 3, none⟩ = some v := ⟨_, (hrow.cellAt (u * 3) (by omega)).trans (List.getElem?_eq_getElem (by rw [rvs_length]; omega))⟩
                  obtain ⟨v1, hv1⟩ : ∃ v, w1.cell? ⟨gi, u * 3 + 1, none⟩ = some v := ⟨_, (hrow.cellAt (u * 3 + 1) (by omega)).trans (List.getElem?_eq_getElem (by rw [rvs_length]; omega))⟩
                  obtain ⟨v2, hv2⟩ : ∃ v, w1.cell? ⟨gi, u * 3 + 2, none⟩ = some v := ⟨_, (hrow.cellAt (u * 3 + 2) (by omega)).trans (List.getElem?_eq_getElem (by rw [rvs_length]; omega))⟩
                  have hf0 := hrow.frozenAt (u * 3)
                  have hf1 := hrow.frozenAt (u * 3 + 1)
                  have hf2 := hrow.frozenAt (u * 3 + 2)
                  have RS := Lib.hid (row_set3 hrow u ⟨s9, a9, n9, c9, o9, m9, d9⟩)
                  have Q9 := Lib.hid (q9.keepRow3 hrow RS.out.2)
                  clear hrow q9
                  have HX := Lib.hid hX
                  have HC := Lib.hid hcl
                  have HB := Lib.hid hB
                  have HD := Lib.hid hD
                  clear hX hcl hB hD hR hp
                  refine wpOp_step rfl (fun K hK => ?_)
                  simp only [putAll, Act.put, List.setIfInBounds_toArray, List.set_cons_succ, List.set_cons_zero]
                  go_simp
                  exact hK _ _ ⟨undef, (by show _ = Act.put _ (none) _; simp only [putAll, Act.put, List.setIfInBounds_toArray, List.set_cons_succ, List.set_cons_zero, *]; all_goals rfl), trivial, RS.out.2, ⟨fun h => (by cases h), fun _ => ⟨_, RS.out.1, Q9.out⟩⟩⟩
                exact trivial
              · intro D f w2 hall hB hR hX
                obtain ⟨r9, hrow9, cq9⟩ := hX.2 (hall 9 (by decide))
                have HO9 := Lib.hid hrow9
                have HI9 : Hid (Inc w2 N (rs.set u r9) (fun v => some (fq (ac v j + if v ∈ (DB j).take (i + 1) then ln j else 0) A))) := (hinc.out.keep hown.out hB).put (cq9.mono (Nat.zero_le _)) (fun v q' hq => by
                  have hmt := mem_take_succ (DB j) (i := i) (by rw [HDL.out]; exact hli) v
                  by_cases e : v = u
                  · left
                    refine ⟨e, ?_⟩
                    rw [if_pos (hmt.2 (.inr (by rw [e]; exact HU.out)))] at hq
                    rw [HQN.out, ← e]
                    exact (Option.some.inj hq).symm
                  · right
                    refine ⟨e, ?_⟩
                    by_cases e2 : v ∈ (DB j).take i
                    · rw [if_pos (hmt.2 (.inl e2))] at hq
                      rw [if_pos e2]; exact hq
                    · rw [if_neg (fun h => (hmt.1 h).elim e2 (fun h => e (by rw [HU.out]; exact h)))] at hq
                      rw [if_neg e2]; exact hq)
                have HG9 : Hid (X0.grownBy w2 (some gi)) := gb_trans hgb.out hB
                clear hrow9 cq9 hX hR hall hB hown hinc hgb KU KL AU QU
                simp only [putAll, Act.put, List.setIfInBounds_toArray, List.set_cons_succ, List.set_cons_zero]
                go_wp2_with fail
                go_roundw
                case rel => exact ⟨i + 1, rs.set u r9, by omega, by go_num, HO9, HI9, HG9⟩
                case measure => simp [intOf]; omega
            · obtain rfl : i = m := by omega
              have hli2 : ¬ (i : Int) < (i : Int) := by omega
              have HI9 : Hid (Inc wr N rs (fun u => some (fq (ac u (j + 1)) A))) := hinc.out.cg (fun u _ => by
                rw [List.take_of_length_le (by rw [HDL.out]; exact Nat.le_refl _), PT.out.acs u j])
              have HB9 : Hid (Below gi W4 wr) := HB0.out.trans (row_gb hgb.out (Nat.le_of_lt hwg0.out) (fun k e => by cases e; exact Nat.le_refl _))
              clear hinc hgb
              go_wp2_with fail
              go_roundw
              case rel => exact ⟨j + 1, rs, by omega, by go_num, hown, HI9, HB9⟩
              case measure => simp [intOf]; omega
    · obtain rfl : j = L := by omega
      have hlt2 : ¬ (j : Int) < (j : Int) := by omega
      have hb4 : Below W4.heap.size W4 wr := by rw [← HGI.out]; exact hbl.out
      have hrn : RdN wr (some ⟨gi, 0, none⟩) N N Q := by
        obtain ⟨ra, rc, e, hrd⟩ := RdR.of_row hown.out
        cases e
        exact ⟨rs, hinc.out.1, hrd, hinc.out.cg (fun u hu => AE.out u hu)⟩
      have SL := Lib.hid (SameList_v N Q (some ⟨gi, 0, none⟩) pa N pc wr hrn (HPN.out.below hb4))
      have HBW : Hid (Below w.heap.size w wr) := B4.out.trans (hb4.mono B4.out.size)
      clear hrn hb4 hown hinc hbl
      go_wp2_with fail
      refine SL.out.mono ?_; rintro e V1 ⟨rfl, b1⟩
      have HW1 := Lib.hid (HBW.out.trans (b1.mono HBW.out.size))
      clear b1
      go_wp2_with fail
      refine (awake10 _).mono ?_; rintro e V7 ⟨rfl, b7⟩
      have HW7 := Lib.hid (HW1.out.trans (b7.mono HW1.out.size))
      clear b7
      go_wp2_with fail
      go_ret
      exact ⟨rfl, HW7.out⟩
end Go.Proofs.YtmhjimcdiglpcaaGreat.Dr
