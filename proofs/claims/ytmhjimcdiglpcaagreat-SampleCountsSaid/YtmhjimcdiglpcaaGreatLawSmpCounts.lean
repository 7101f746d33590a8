import Derived.Test.YtmhjimcdiglpcaaGreatDrF
import Derived.Test.YtmhjimcdiglpcaaGreatDrD
import Derived.Test.YtmhjimcdiglpcaaGreatDrE
import Derived.Test.YtmhjimcdiglpcaaGreatEstA
import Derived.Test.YtmhjimcdiglpcaaGreatSmpAw
import Derived.Test.YtmhjimcdiglpcaaGreatDrC
import Derived.Test.YtmhjimcdiglpcaaGreatPows2
/- SampleCounts: the walk. -/
namespace Go.Proofs.YtmhjimcdiglpcaaGreat.Dr
open Go.RowKit Go.Sort C6 SN

theorem szs_made2 {zs : List Int} (h1 : 1 ≤ zs.length) (h : ∀ x ∈ zs, 1 ≤ x ∧ x ≤ 402) : szs zs = true := szs_good h1 (fun i hi => by
  have e : zs.getD i 0 = zs[i] := by simp [List.getD, hi]
  have := h _ (List.getElem_mem hi)
  rw [e]
  unfold szOk
  rw [decide_eq_true (show 1 ≤ zs[i] by omega), decide_eq_true (show zs[i] ≤ 1099511627776 by omega)]
  rfl)
set_option maxHeartbeats 16000000 in
set_option maxRecDepth 100000 in
theorem SampleCounts_any (lo : Option Addr) (ts : List Int) (tc : Nat) (w : World) (ht : RdZ w lo tc ts) :
    Calls Tryz.prog 3 #[.slice lo ts.length tc] w fun e w' => e = .returned (.bool true) ∧ Below w.heap.size w w' := by
  obtain ⟨i0, hi, hz0, hz1, hz2⟩ := info_partsr infoBool
  have HI : Hid (Tryz.prog.info? 4 = some i0 ∧ i0.zero = some (.bool false) ∧ i0.size = 1 ∧ i0.bytes = 1) := ⟨hi, hz0, hz1, hz2⟩
  clear hi hz0 hz1 hz2
  obtain ⟨W1, hW1⟩ : ∃ W, W = w.alloc (.cells #[.slice lo ts.length tc, .int .i64 0] 25) := ⟨_, rfl⟩
  obtain ⟨B, hB⟩ : ∃ B, B = w.heap.size := ⟨_, rfl⟩
  have b1 : Below w.heap.size w W1 := by rw [hW1]; exact below_new _ _
  have T1 : Tap W1 B lo ts.length tc 0 := by rw [hW1, hB]; exact Tap.new w lo ts.length tc
  have htB : 0 < (intz ts).length → ∀ b o, lo = some ⟨b, o, none⟩ → b < B := fun h b o e => by rw [hB]; exact ht.lt h b o e
  have MD := made_v B lo tc ts 0 W1 T1 (ht.below b1) htB (by omega)
  obtain ⟨nt, hnt⟩ : ∃ n, n = ts.length := ⟨_, rfl⟩
  have HNT := Lib.hid hnt
  rw [← hnt] at MD hW1 ⊢
  have MD := Lib.hid MD
  have B1 := Lib.hid b1
  have HBB : Hid (B = w.heap.size) := hB
  have HT := Lib.hid ht
  clear ht b1 T1 htB hnt
  go_enter Tryz.func3, Tryz.ntmps3
  go_wp2_with fail
  rw [← hW1]
  try rw [← hB]
  clear hW1 hB
  refine MD.out.mono ?_; rintro e W2 ⟨la, lc, zs, k, rfl, hz1, hz8, hzb, hk1, hkn, hz, g2, j, hj, t2, hlb⟩
  have B2 : Hid (Below w.heap.size w W2) := B1.out.trans (row_gb g2 B1.out.size (fun j e => by cases e; rw [HBB.out]; exact Nat.le_refl _))
  have NX : Calls Tryz.prog 9 #[.pointer (some ⟨B, 0, none⟩), .int .i64 30] W2 (NextPost W2 B lo nt tc j 30) := by
    rw [HNT.out] at t2 ⊢
    exact Next_v B lo tc ts j 30 W2 t2 (HT.out.below B2.out) (by omega) (by omega) (by omega) 30 rfl
  have NX := Lib.hid NX
  have hsz := szs_made2 hz1 hzb
  have hE : Hid (drE zs (k : Int) = 0) := by
    unfold Hid drE
    rw [if_neg (by rw [hsz]; decide), if_neg (by omega)]
  have hx : Hid (∀ i, i < zs.length → 1 ≤ fx zs i ∧ fx zs i ≤ 1099511627776) := fun i hi => szs_at hsz hi
  have HSZ := Lib.hid hsz
  have HZ := Lib.hid hz
  have HLB : Hid (0 < (intz zs).length → ∀ b o, la = some ⟨b, o, none⟩ → b ≠ B) := by unfold Hid; rw [intz_length]; exact hlb
  obtain ⟨N, hN⟩ : ∃ N, N = zs.length := ⟨_, rfl⟩
  have HN := Lib.hid hN
  rw [← hN] at hz1 hz8 hkn ⊢
  have hlc : N ≤ lc := by have := hz.1; rw [intz_length, ← hN] at this; exact this
  have hlc2 := hz.2.1
  clear hz g2 hsz hN hzb MD B1 t2 hlb
  go_wp2_with fail
  refine NX.out.mono ?_; rintro e W3 ⟨r, rfl, hr30, g3, _, _⟩
  have B3 : Hid (Below w.heap.size w W3) := B2.out.trans (row_gb g3 B2.out.size (fun j e => by cases e; rw [HBB.out]; exact Nat.le_refl _))
  have HZ3 : Hid (RdZ W3 la lc zs) := rdv_gb HZ.out HLB.out g3
  obtain ⟨q, hq⟩ : ∃ q : Rat, q = fq (r : Int) 30 := ⟨_, rfl⟩
  have hqu := fq_unit (a := (r : Int)) (b := 30) (by omega) (by omega) (by omega)
  rw [← hq] at hqu
  have HQU := Lib.hid hqu
  have FQ : Hid (Calls Tryz.prog 8 #[.int .i64 (r : Int), .int .i64 30] W3 (MakesQ q 2 W3)) := by rw [hq]; exact mFracS (r : Int) 30 (by omega) (by omega) (by omega) (by omega) W3
  clear hq hqu g3 NX HZ HLB B2
  go_wp2_with fail
  refine FQ.out.mono ?_; rintro e W4 ⟨s6, a6, n6, c6, o6, m6, d6, rfl, cq6, b4⟩
  have B4 : Hid (Below w.heap.size w W4) := B3.out.trans (b4.mono B3.out.size)
  have HZ4 : Hid (RdZ W4 la lc zs) := HZ3.out.below b4
  have SY := Systematic_v zs (k : Int) la lc s6 a6 o6 n6 c6 m6 d6 2 q ⟨by omega, by omega⟩ W4 (by have := HN.out; omega) HZ4.out cq6.rq
  rw [← HN.out] at SY
  have SY := Lib.hid SY
  clear cq6 b4 FQ B3 HZ3
  go_wp2_with fail
  refine SY.out.mono ?_; rintro e W5 ⟨b5, ⟨h, _⟩ | ⟨_, h, _⟩ | ⟨_, _, m, od, K, a, L, c, hkm, _, _, _, ho, hK, rfl, hL, hrd⟩⟩
  · exact absurd hE.out h
  · exact absurd h (not_stB HQU.out.1 HQU.out.2)
  obtain rfl : m = k := by omega
  have hDL := drawL_len ho hK hx.out HQU.out.1 HQU.out.2 (by have := HN.out; omega)
  obtain ⟨DL, hDLd⟩ : ∃ DL, DL = drawL (fx zs) (od.take K) ((m : Int) - (K : Int)) (T (fx zs) od K) q zs.length := ⟨_, rfl⟩
  have hlt : ∀ i, i < DL.length → DL.getD i 0 < N := fun i hi => by rw [hDLd] at hi ⊢; have := drawL_at hi; have := HN.out; omega
  have hup : ∀ i, i + 1 < DL.length → DL.getD i 0 < DL.getD (i + 1) 0 := fun i hi => by rw [hDLd] at hi ⊢; exact drawL_up2 hi
  have hnd : ∀ i, i < N → i ∉ DL → cq (incQ (fx zs) od K ((m : Int) - (K : Int)) i) 1 < 0 := fun i hi hn => not_drawn ho hK hx.out (q := q) (by have := HN.out; omega) (by rw [← hDLd]; exact hn)
  rw [← hDLd] at hDL hL hrd
  obtain rfl : L = m := by omega
  have B5 : Hid (Below w.heap.size w W5) := B4.out.trans (b5.mono B4.out.size)
  have HZ5 : Hid (RdZ W5 la lc zs) := HZ4.out.below b5
  obtain ⟨Q, hQ⟩ : ∃ Q, Q = incQ (fx zs) od K ((L : Int) - (K : Int)) := ⟨_, rfl⟩
  have RI := rInclusion_ok zs od L K la lc W5 HSZ.out (by have := HN.out; omega) (by have := HN.out; omega) ho hK HZ5.out hE.out
  rw [← HN.out, ← hQ] at RI
  have RI := Lib.hid RI
  rw [← hQ] at hnd
  have HND := Lib.hid hnd
  have HUP := Lib.hid hup
  have HLT := Lib.hid hlt
  have HDL := Lib.hid hDL
  have HRD := Lib.hid hrd
  have hac : L ≤ c := by have := hrd.1; simp [intz, iz_len] at this; omega
  have hac2 := hrd.2.1
  clear hkm ho hK hQ hDLd hL hrd b5 SY hlt hup hnd hDL B4 HZ4 hlc hlc2 HZ5 HSZ hx hE
  go_wp2_with fail
  refine RI.out.mono ?_; rintro e W6 ⟨pa, pc, rfl, hpn, b6⟩
  have B6 : Hid (Below w.heap.size w W6) := B5.out.trans (b6.mono B5.out.size)
  have HRD6 : Hid (RdZ W6 a c (iz DL)) := HRD.out.below b6
  have HPN := Lib.hid hpn
  have E0 : ((0 : Int) != 0) = false := rfl
  have E1 : ((L : Int) != (L : Int)) = false := by simp
  clear b6 hpn B5 HRD RI
  obtain ⟨gi, hgi⟩ : ∃ g, g = W6.heap.size := ⟨_, rfl⟩
  have HGI := Lib.hid hgi
  have hNI : (0 : Int) ≤ (N : Int) := by omega
  clear hgi
  go_upto_region 8 with (at_make; go_loud (refine wpList_make_full _ rfl _ _ 41 rfl W6.heap.size 4 i0 (.bool false) 1 Tryz.underlying41 HI.out.1 HI.out.2.1 HI.out.2.2.1 _ _ _ _ N rfl rfl (by omega) (by omega) (by rw [HI.out.2.2.2]; omega) (by unfold maxLen; omega) (Nat.le_refl _) ?_); intro w1 hown hgr)
  have hb1 : Hid (Below gi W6 w1) := by unfold Hid; rw [HGI.out]; exact (Below.refl _ _).grown hgr (Nat.le_refl _) (fun k hk => by cases hk)
  have hown1 : Hid (w1.ownsRow gi 4 1 (.slice (some ⟨gi, 0, none⟩) N N) N (bl DL 0 N)) := by
    have e : (madeCells (Value.bool false).cells (N * 1)).toList = bl DL 0 N := by rw [show (Value.bool false).cells = #[Value.bool false] from rfl, toList_madeCells_one, Nat.mul_one, bl_zero]
    unfold Hid; rw [← e, HGI.out]; exact hown
  try rw [← HGI.out]
  clear hown hgr
  go_wp2_with fail
  go_loopw [50] (fun s50 wr => ∃ i : Nat, i ≤ L ∧ s50 = .int .i64 (i : Int) ∧ Hid (wr.ownsRow gi 4 1 (.slice (some ⟨gi, 0, none⟩) N N) N (bl DL i N)) ∧ Hid (Below gi W6 wr)) (fun s50 _ => L - (intOf s50).toNat)
  case atStart => exact ⟨0, by omega, rfl, hown1, hb1⟩
  case round =>
    obtain ⟨i, hiL, rfl, hown, hbl⟩ := hrel
    by_cases hlt : i < L
    · have hlt2 : (i : Int) < (L : Int) := by omega
      obtain ⟨b, o, rfl, kx⟩ := (HRD6.out.below (by rw [← HGI.out]; exact hbl.out)).atZ (show i < (iz DL).length by rw [iz_len, HDL.out]; exact hlt)
      rw [iz_getD] at kx
      obtain ⟨u, hu⟩ : ∃ u, u = DL.getD i 0 := ⟨_, rfl⟩
      have huN : u < N := by rw [hu]; exact HLT.out i (by rw [HDL.out]; exact hlt)
      rw [← hu] at kx
      have hu0 : decide ((u : Int) < 0) = false := decide_eq_false (by omega)
      have hu1 : decide ((N : Int) ≤ (u : Int)) = false := decide_eq_false (by omega)
      have huI : (u : Int) < (N : Int) := by omega
      have hic : i < c := by omega
      obtain ⟨v0, hv0⟩ : ∃ v, _ = some v := ⟨_, (hown.out.cellAt u (by omega)).trans (List.getElem?_eq_getElem (by rw [bl_len]; omega))⟩
      have hf0 := hown.out.frozenAt u
      obtain ⟨hst, _⟩ := hown.out.stored u (.bool true)
      rw [hu, bl_set DL i N (by rw [HDL.out]; exact hlt), ← hu] at hst
      have HST := Lib.hid hst
      have HBS := Lib.hid (Below.setCell (p := ⟨gi, u, none⟩) hbl.out (Nat.le_refl _) (.bool true))
      have HUI := Lib.hid hu
      clear hst hu
      by_cases hi0 : 0 < i
      · obtain ⟨j, hj⟩ : ∃ j, i = j + 1 := ⟨i - 1, by omega⟩
        obtain ⟨b', o', e', ky⟩ := (HRD6.out.below (by rw [← HGI.out]; exact hbl.out)).atZ (show j < (iz DL).length by rw [iz_len, HDL.out]; omega)
        cases e'
        rw [iz_getD] at ky
        obtain ⟨p, hp⟩ : ∃ u, u = DL.getD j 0 := ⟨_, rfl⟩
        have hpu : p < u := by rw [hp, HUI.out, hj]; exact HUP.out j (by rw [HDL.out, ← hj]; exact hlt)
        rw [← hp] at ky
        have hpu2 : decide ((u : Int) ≤ (p : Int)) = false := decide_eq_false (by omega)
        have hij : (i : Int) - 1 = (j : Int) := by omega
        have hpos : decide ((0 : Int) < (i : Int)) = true := decide_eq_true (by omega)
        have hpos2 : (0 : Int) < (i : Int) := by omega
        have hjc : j < c := by omega
        clear hp hj
        go_wp2_with fail
        go_roundw
        case rel => exact ⟨i + 1, by omega, by go_num, HST, HBS⟩
        case measure => simp [intOf]; omega
      · have hpos : decide ((0 : Int) < (i : Int)) = false := decide_eq_false (by omega)
        have hpos2 : ¬ (0 : Int) < (i : Int) := by omega
        go_wp2_with fail
        go_roundw
        case rel => exact ⟨i + 1, by omega, by go_num, HST, HBS⟩
        case measure => simp [intOf]; omega
    · obtain rfl : i = L := by omega
      have hlt2 : ¬ (i : Int) < (i : Int) := by omega
      obtain ⟨X0, hX0⟩ : ∃ X, X = wr := ⟨_, rfl⟩
      have HRN : RdN X0 pa pc N Q := by rw [hX0]; exact HPN.out.below (by rw [← HGI.out]; exact hbl.out)
      have KBW : Hid (∀ w', Below X0.heap.size X0 w' → ∀ t, t < N → w'.cell? ⟨gi, t, none⟩ = some (.bool (decide (t ∈ DL)))) := fun w' hb t ht => by
        rw [hX0] at hb
        have h := (hown.out.cellAt t (by omega)).trans (bl_at DL i N t ht)
        rw [List.take_of_length_le (by rw [HDL.out]; exact Nat.le_refl _)] at h
        exact (hb.cell (World.block_lt_of_cell? _ _ h)).trans h
      have HBW : Hid (Below w.heap.size w X0) := by rw [hX0]; exact B6.out.trans (hbl.out.mono (by rw [HGI.out]; exact B6.out.size))
      obtain ⟨rs, hrl, hrd, hinc⟩ := HRN
      have HRS := Lib.hid hrl
      have HRR := Lib.hid hrd
      have HIN := Lib.hid hinc
      have hpc : N ≤ pc := by have := hrd.1; omega
      have hpc2 := hrd.2.1
      have ON : Hid (∀ w', Calls Tryz.prog 12 #[] w' (MakesQ 1 2 w')) := fun w' => rOne_q w'
      have HST : Hid (Below X0.heap.size X0 wr) := by rw [hX0]; exact Below.refl _ _
      clear hown hbl hrl hrd hinc hX0
      go_wp2_with fail
      go_loopw [82] (fun s82 wi => ∃ q : Nat, q ≤ N ∧ s82 = .int .i64 (q : Int) ∧ Hid (Below X0.heap.size X0 wi)) (fun s82 _ => N - (intOf s82).toNat)
      case atStart => exact ⟨0, by omega, rfl, HST⟩
      case round =>
        obtain ⟨q, hqN, rfl, hbl⟩ := hrel
        by_cases hlq : q < N
        · have hlq2 : (q : Int) < (N : Int) := by omega
          have kb := KBW.out wr hbl.out q hlq
          obtain ⟨b, o, rfl, hat⟩ := HRR.out.at (by rw [HRS.out]; omega)
          obtain ⟨r, hre⟩ : ∃ r, r = rs.getD q RV.nil := ⟨_, rfl⟩
          have x1 := (hat q (by rw [HRS.out]; exact hlq)).below hbl.out
          have q1 := (HIN.out.at hlq).below hbl.out
          rw [← hre] at x1 q1
          obtain ⟨C1, hC1⟩ : ∃ C, C = cq (Q q) 1 := ⟨_, rfl⟩
          have K1 : Hid (∀ w', Below wr.heap.size wr w' → At3 w' b (o + q * 3) r) := fun w' hb => x1.below hb
          have CM : Hid (∀ w', Below wr.heap.size wr w' → ∀ t po n' ca' qo l cb', RQ w' t po n' ca' qo l cb' 1 2 → Calls Tryz.prog 11 #[.agg #[.bool r.s, .slice r.ao r.n r.ca, .slice r.bo r.m r.cb], .agg #[.bool t, .slice po n' ca', .slice qo l cb']] w' fun e w2 => e = .returned (.int .i64 C1) ∧ Below w'.heap.size w' w2) := fun w' hb t po n' ca' qo l cb' h1 => by rw [hC1]; exact rCompare_q _ _ _ _ _ _ _ _ _ _ _ _ _ _ 2 (Q q) 1 w' ((q1.below hb).rq) h1 (by omega)
          have hqc : q < pc := by omega
          by_cases hin : q ∈ DL
          · rw [decide_eq_true hin] at kb
            have KB : Hid (∀ w', Below wr.heap.size wr w' → w'.cell? ⟨gi, q, none⟩ = some (.bool true)) := fun w' hb => (hb.cell (World.block_lt_of_cell? _ _ kb)).trans kb
            clear kb hin hre x1 q1 hC1 hat
            go_upto_region 18 with fail
            refine wp_region_held_drew (S := fun w' => Below wr.heap.size wr w') (by kernel_rfl) ((Below.refl _ _).drew) (fun hH => ?_)
            refine wpAnyH_take (i := 0) (v := (.slice (some ⟨gi, 0, none⟩) N N)) rfl (by kernel_rfl) (by kernel_rfl) (by kernel_rfl) (fun _ _ _ h => h) (Or.inl ⟨by kernel_rfl, ?_⟩) hH ?_
            · intro w1 hB
              go_simp
            change wpAnyH _ _ _ _ _ _ _ (Act.put _ (some 85) _) _
            try simp only [Act.put, List.setIfInBounds_toArray, List.set_cons_zero, List.set_cons_succ]
            refine wpAnyH_take (i := 1) (v := (.int .i64 (q : Int))) rfl (by kernel_rfl) (by kernel_rfl) (by kernel_rfl) (fun _ _ _ h => h) (Or.inl ⟨by kernel_rfl, ?_⟩) hH ?_
            · intro w1 hB
              go_simp
            change wpAnyH _ _ _ _ _ _ _ (Act.put _ (some 86) _) _
            try simp only [Act.put, List.setIfInBounds_toArray, List.set_cons_zero, List.set_cons_succ]
            refine wpAnyH_take (i := 2) (v := (.pointer (some ⟨gi, q, none⟩))) rfl (by kernel_rfl) (by kernel_rfl) (by kernel_rfl) (fun _ _ _ h => h) (Or.inl ⟨by kernel_rfl, ?_⟩) hH ?_
            · intro w1 hB
              go_simp
            change wpAnyH _ _ _ _ _ _ _ (Act.put _ (some 87) _) _
            try simp only [Act.put, List.setIfInBounds_toArray, List.set_cons_zero, List.set_cons_succ]
            refine wpAnyH_take (i := 3) (v := (.bool true)) rfl (by kernel_rfl) (by kernel_rfl) (by kernel_rfl) (fun _ _ _ h => h) (Or.inl ⟨by kernel_rfl, ?_⟩) hH ?_
            · intro w1 hB
              have k3 := KB.out w1 hB
              go_simp
            change wpAnyH _ _ _ _ _ _ _ (Act.put _ (some 88) _) _
            try simp only [Act.put, List.setIfInBounds_toArray, List.set_cons_zero, List.set_cons_succ]
            refine wpAnyH_take (i := 4) (v := (.bool false)) rfl (by kernel_rfl) (by kernel_rfl) (by kernel_rfl) (fun _ _ _ h => h) (Or.inl ⟨by kernel_rfl, ?_⟩) hH ?_
            · intro w1 hB
              go_simp
            change wpAnyH _ _ _ _ _ _ _ (Act.put _ (some 89) _) _
            try simp only [Act.put, List.setIfInBounds_toArray, List.set_cons_zero, List.set_cons_succ]
            refine wpAnyH_take (i := 5) (v := (.bool false)) rfl (by kernel_rfl) (by kernel_rfl) (by kernel_rfl) (fun _ _ _ h => h) (Or.inl ⟨by kernel_rfl, ?_⟩) hH ?_
            · intro w1 hB
              go_simp
            change wpAnyH _ _ _ _ _ _ _ (Act.put _ (some 90) _) _
            try simp only [Act.put, List.setIfInBounds_toArray, List.set_cons_zero, List.set_cons_succ]
            refine wpAnyH_take (i := 6) (v := undef) rfl (by kernel_rfl) (by kernel_rfl) (by kernel_rfl) (fun _ _ _ h => h) (Or.inr ⟨by kernel_rfl, rfl⟩) hH ?_
            change wpAnyH _ _ _ _ _ _ _ (Act.put _ (some 91) _) _
            try simp only [Act.put, List.setIfInBounds_toArray, List.set_cons_zero, List.set_cons_succ]
            refine wpAnyH_take (i := 7) (v := undef) rfl (by kernel_rfl) (by kernel_rfl) (by kernel_rfl) (fun _ _ _ h => h) (Or.inr ⟨by kernel_rfl, rfl⟩) hH ?_
            change wpAnyH _ _ _ _ _ _ _ (Act.put _ (some 92) _) _
            try simp only [Act.put, List.setIfInBounds_toArray, List.set_cons_zero, List.set_cons_succ]
            refine wpAnyH_take (i := 8) (v := undef) rfl (by kernel_rfl) (by kernel_rfl) (by kernel_rfl) (fun _ _ _ h => h) (Or.inr ⟨by kernel_rfl, rfl⟩) hH ?_
            change wpAnyH _ _ _ _ _ _ _ (Act.put _ (some 93) _) _
            try simp only [Act.put, List.setIfInBounds_toArray, List.set_cons_zero, List.set_cons_succ]
            refine wpAnyH_take (i := 9) (v := undef) rfl (by kernel_rfl) (by kernel_rfl) (by kernel_rfl) (fun _ _ _ h => h) (Or.inr ⟨by kernel_rfl, rfl⟩) hH ?_
            change wpAnyH _ _ _ _ _ _ _ (Act.put _ (some 94) _) _
            try simp only [Act.put, List.setIfInBounds_toArray, List.set_cons_zero, List.set_cons_succ]
            refine wpAnyH_take (i := 10) (v := undef) rfl (by kernel_rfl) (by kernel_rfl) (by kernel_rfl) (fun _ _ _ h => h) (Or.inr ⟨by kernel_rfl, rfl⟩) hH ?_
            change wpAnyH _ _ _ _ _ _ _ (Act.put _ (some 95) _) _
            try simp only [Act.put, List.setIfInBounds_toArray, List.set_cons_zero, List.set_cons_succ]
            refine wpAnyH_take (i := 11) (v := undef) rfl (by kernel_rfl) (by kernel_rfl) (by kernel_rfl) (fun _ _ _ h => h) (Or.inr ⟨by kernel_rfl, rfl⟩) hH ?_
            change wpAnyH _ _ _ _ _ _ _ (Act.put _ (some 96) _) _
            try simp only [Act.put, List.setIfInBounds_toArray, List.set_cons_zero, List.set_cons_succ]
            refine wpAnyH_take (i := 12) (v := undef) rfl (by kernel_rfl) (by kernel_rfl) (by kernel_rfl) (fun _ _ _ h => h) (Or.inr ⟨by kernel_rfl, rfl⟩) hH ?_
            change wpAnyH _ _ _ _ _ _ _ (Act.put _ (some 97) _) _
            try simp only [Act.put, List.setIfInBounds_toArray, List.set_cons_zero, List.set_cons_succ]
            refine wpAnyH_take (i := 13) (v := (.bool false)) rfl (by kernel_rfl) (by kernel_rfl) (by kernel_rfl) (fun _ _ _ h => h) (Or.inl ⟨by kernel_rfl, ?_⟩) hH ?_
            · intro w1 hB
              go_simp
            change wpAnyH _ _ _ _ _ _ _ (Act.put _ (some 98) _) _
            try simp only [Act.put, List.setIfInBounds_toArray, List.set_cons_zero, List.set_cons_succ]
            refine wpAnyH_done (by kernel_rfl) ?_ _
            have BV : Below wr.heap.size wr _ := hH
            have HB9 := Lib.hid (hbl.out.trans (BV.mono hbl.out.size))
            clear BV hbl K1 CM KB
            go_wp2_with fail
            go_roundw
            case rel => exact ⟨q + 1, by omega, by go_num, HB9⟩
            case measure => simp [intOf]; omega
          · rw [decide_eq_false hin] at kb
            have KB : Hid (∀ w', Below wr.heap.size wr w' → w'.cell? ⟨gi, q, none⟩ = some (.bool false)) := fun w' hb => (hb.cell (World.block_lt_of_cell? _ _ kb)).trans kb
            have hC0 : (C1 == 0) = false := beq_eq_false_iff_ne.2 (by have := HND.out q hlq hin; rw [← hC1] at this; omega)
            clear kb hin hre x1 q1 hC1 hat
            go_upto_region 18 with fail
            refine wp_region_held_drew (S := fun w' => Below wr.heap.size wr w') (by kernel_rfl) ((Below.refl _ _).drew) (fun hH => ?_)
            refine wpAnyH_take (i := 0) (v := (.slice (some ⟨gi, 0, none⟩) N N)) rfl (by kernel_rfl) (by kernel_rfl) (by kernel_rfl) (fun _ _ _ h => h) (Or.inl ⟨by kernel_rfl, ?_⟩) hH ?_
            · intro w1 hB
              go_simp
            change wpAnyH _ _ _ _ _ _ _ (Act.put _ (some 85) _) _
            try simp only [Act.put, List.setIfInBounds_toArray, List.set_cons_zero, List.set_cons_succ]
            refine wpAnyH_take (i := 1) (v := (.int .i64 (q : Int))) rfl (by kernel_rfl) (by kernel_rfl) (by kernel_rfl) (fun _ _ _ h => h) (Or.inl ⟨by kernel_rfl, ?_⟩) hH ?_
            · intro w1 hB
              go_simp
            change wpAnyH _ _ _ _ _ _ _ (Act.put _ (some 86) _) _
            try simp only [Act.put, List.setIfInBounds_toArray, List.set_cons_zero, List.set_cons_succ]
            refine wpAnyH_take (i := 2) (v := (.pointer (some ⟨gi, q, none⟩))) rfl (by kernel_rfl) (by kernel_rfl) (by kernel_rfl) (fun _ _ _ h => h) (Or.inl ⟨by kernel_rfl, ?_⟩) hH ?_
            · intro w1 hB
              go_simp
            change wpAnyH _ _ _ _ _ _ _ (Act.put _ (some 87) _) _
            try simp only [Act.put, List.setIfInBounds_toArray, List.set_cons_zero, List.set_cons_succ]
            refine wpAnyH_take (i := 3) (v := (.bool false)) rfl (by kernel_rfl) (by kernel_rfl) (by kernel_rfl) (fun _ _ _ h => h) (Or.inl ⟨by kernel_rfl, ?_⟩) hH ?_
            · intro w1 hB
              have k3 := KB.out w1 hB
              obtain ⟨k0, k1, k2⟩ := K1.out w1 hB
              go_simp
            change wpAnyH _ _ _ _ _ _ _ (Act.put _ (some 88) _) _
            try simp only [Act.put, List.setIfInBounds_toArray, List.set_cons_zero, List.set_cons_succ]
            refine wpAnyH_take (i := 4) (v := (.bool true)) rfl (by kernel_rfl) (by kernel_rfl) (by kernel_rfl) (fun _ _ _ h => h) (Or.inl ⟨by kernel_rfl, ?_⟩) hH ?_
            · intro w1 hB
              go_simp
            change wpAnyH _ _ _ _ _ _ _ (Act.put _ (some 89) _) _
            try simp only [Act.put, List.setIfInBounds_toArray, List.set_cons_zero, List.set_cons_succ]
            refine wpAnyH_take (i := 5) (v := (.bool true)) rfl (by kernel_rfl) (by kernel_rfl) (by kernel_rfl) (fun _ _ _ h => h) (Or.inl ⟨by kernel_rfl, ?_⟩) hH ?_
            · intro w1 hB
              go_simp
            change wpAnyH _ _ _ _ _ _ _ (Act.put _ (some 90) _) _
            try simp only [Act.put, List.setIfInBounds_toArray, List.set_cons_zero, List.set_cons_succ]
            refine wpAnyH_take (i := 6) (v := (.slice (some ⟨b, o, none⟩) N pc)) rfl (by kernel_rfl) (by kernel_rfl) (by kernel_rfl) (fun _ _ _ h => h) (Or.inl ⟨by kernel_rfl, ?_⟩) hH ?_
            · intro w1 hB
              go_simp
            change wpAnyH _ _ _ _ _ _ _ (Act.put _ (some 91) _) _
            try simp only [Act.put, List.setIfInBounds_toArray, List.set_cons_zero, List.set_cons_succ]
            refine wpAnyH_take (i := 7) (v := (.int .i64 (q : Int))) rfl (by kernel_rfl) (by kernel_rfl) (by kernel_rfl) (fun _ _ _ h => h) (Or.inl ⟨by kernel_rfl, ?_⟩) hH ?_
            · intro w1 hB
              go_simp
            change wpAnyH _ _ _ _ _ _ _ (Act.put _ (some 92) _) _
            try simp only [Act.put, List.setIfInBounds_toArray, List.set_cons_zero, List.set_cons_succ]
            refine wpAnyH_take (i := 8) (v := (.pointer (some ⟨b, o + q * 3, none⟩))) rfl (by kernel_rfl) (by kernel_rfl) (by kernel_rfl) (fun _ _ _ h => h) (Or.inl ⟨by kernel_rfl, ?_⟩) hH ?_
            · intro w1 hB
              go_simp
            change wpAnyH _ _ _ _ _ _ _ (Act.put _ (some 93) _) _
            try simp only [Act.put, List.setIfInBounds_toArray, List.set_cons_zero, List.set_cons_succ]
            refine wpAnyH_take (i := 9) (v := (.agg #[.bool r.s, .slice r.ao r.n r.ca, .slice r.bo r.m r.cb])) rfl (by kernel_rfl) (by kernel_rfl) (by kernel_rfl) (fun _ _ _ h => h) (Or.inl ⟨by kernel_rfl, ?_⟩) hH ?_
            · intro w1 hB
              have k3 := KB.out w1 hB
              obtain ⟨k0, k1, k2⟩ := K1.out w1 hB
              go_simp
            change wpAnyH _ _ _ _ _ _ _ (Act.put _ (some 94) _) _
            try simp only [Act.put, List.setIfInBounds_toArray, List.set_cons_zero, List.set_cons_succ]
            refine wpAnyH_ready (rs := [10]) (by kernel_rfl) (by simp) ?_
            refine AllReadyH.cons rfl (fun K hK => ?_) AllReadyH.nil
            go_simp
            refine (ON.out _).mono ?_
            rintro e V10 ⟨s5, a5, n5, c5, o5, m5, d5, rfl, cq5, v10⟩
            try go_simp
            refine hK.out _ _ (keepB v10 hH (Nat.le_refl _)) (fun hH10 => ?_)
            clear hK K
            try simp only [Act.put, List.setIfInBounds_toArray, List.set_cons_zero, List.set_cons_succ]
            refine wpAnyH_ready (rs := [11]) (by kernel_rfl) (by simp) ?_
            refine AllReadyH.cons rfl (fun K hK => ?_) AllReadyH.nil
            go_simp
            refine (CM.out _ hH10 s5 a5 n5 c5 o5 m5 d5 cq5.rq).mono ?_
            rintro e V11 ⟨rfl, v11⟩
            try go_simp
            refine hK.out _ _ (keepB v11 hH10 (Nat.le_refl _)) (fun hH11 => ?_)
            clear hK K
            try simp only [Act.put, List.setIfInBounds_toArray, List.set_cons_zero, List.set_cons_succ]
            refine wpAnyH_take (i := 12) (v := (.bool false)) rfl (by kernel_rfl) (by kernel_rfl) (by kernel_rfl) (fun _ _ _ h => h) (Or.inl ⟨by kernel_rfl, ?_⟩) hH11 ?_
            · intro w1 hB
              go_simp
            change wpAnyH _ _ _ _ _ _ _ (Act.put _ (some 97) _) _
            try simp only [Act.put, List.setIfInBounds_toArray, List.set_cons_zero, List.set_cons_succ]
            refine wpAnyH_take (i := 13) (v := (.bool false)) rfl (by kernel_rfl) (by kernel_rfl) (by kernel_rfl) (fun _ _ _ h => h) (Or.inl ⟨by kernel_rfl, ?_⟩) hH11 ?_
            · intro w1 hB
              go_simp
            change wpAnyH _ _ _ _ _ _ _ (Act.put _ (some 98) _) _
            try simp only [Act.put, List.setIfInBounds_toArray, List.set_cons_zero, List.set_cons_succ]
            refine wpAnyH_done (by kernel_rfl) ?_ _
            have BV : Below wr.heap.size wr _ := hH11
            have HB9 := Lib.hid (hbl.out.trans (BV.mono hbl.out.size))
            clear BV hbl K1 CM KB
            go_wp2_with fail
            go_roundw
            case rel => exact ⟨q + 1, by omega, by go_num, HB9⟩
            case measure => simp [intOf]; omega
        · obtain rfl : q = N := by omega
          have hlq2 : ¬ (q : Int) < (q : Int) := by omega
          go_wp2_with fail
          refine (awake10 _).mono ?_; rintro e V7 ⟨rfl, b7⟩
          have HW7 := Lib.hid (HBW.out.trans ((hbl.out.trans (b7.mono hbl.out.size)).mono HBW.out.size))
          clear b7
          go_wp2_with fail
          go_ret
          exact ⟨rfl, HW7.out⟩
end Go.Proofs.YtmhjimcdiglpcaaGreat.Dr
