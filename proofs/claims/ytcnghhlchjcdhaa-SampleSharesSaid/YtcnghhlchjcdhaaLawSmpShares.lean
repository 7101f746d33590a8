import Derived.Test.YtcnghhlchjcdhaaDuA
import Derived.Test.YtcnghhlchjcdhaaDtB
import Derived.Test.YtcnghhlchjcdhaaDrE
import Derived.Test.YtcnghhlchjcdhaaBoxA
import Derived.Test.YtcnghhlchjcdhaaSmpAw
/- SampleShares: the walk. -/
namespace Go.Proofs.Ytcnghhlchjcdhaa.Dr
open Go.RowKit Go.Sort C6

theorem FoldB_v (v : Int) (k : Nat) (hk : 1 ≤ k) (hk2 : k ≤ 10000000) (w : World) (n : Int) (hn : n = k) :
    Calls Try.prog 13 #[.int .i64 v, .int .i64 n] w fun e w' => ∃ r : Nat, e = .returned (.int .i64 (r : Int)) ∧ r < k ∧ w = w' := by
  subst hn
  obtain ⟨u, hu⟩ : ∃ u : Nat, u = (IntKind.u64.wrap v).toNat := ⟨_, rfl⟩
  have hb : 0 ≤ IntKind.u64.wrap v ∧ IntKind.u64.wrap v ≤ 18446744073709551615 := by rw [IntKind.wrap_u64]; omega
  have hw : IntKind.u64.wrap v = (u : Int) := by omega
  have hub : (u : Int) ≤ 18446744073709551615 := by omega
  have hr : u % k < k := Nat.mod_lt _ (by omega)
  have he : (u : Int) % (k : Int) = ((u % k : Nat) : Int) := (Int.natCast_emod u k).symm
  have E := Lib.hid he
  have hrb0 : 0 ≤ (u : Int) % (k : Int) := by omega
  have hrb : (u : Int) % (k : Int) ≤ 10000000 := by omega
  have hmx : max (k : Int) 1 = (k : Int) := by omega
  clear hu hb he
  go_enter Try.func13, Try.ntmps13
  go_wp2
  go_ret
  exact ⟨u % k, ret_i64 E.out, hr, rfl⟩
theorem qs_list (xs : List Rat) : qs (fun j => xs.getD j 0) xs.length = qsum xs := by
  unfold qs
  congr 1
  apply List.ext_getElem
  · simp
  · intro i h1 h2
    simp [List.getD, h2]
theorem kq_five {N : Nat} (h : 1 ≤ N) : 5 ≤ kq 2 N := by
  obtain ⟨n, rfl⟩ : ∃ n, N = n + 1 := ⟨N - 1, by omega⟩
  rw [kq_succ]
  have := kq_ge 2 n
  omega

set_option maxHeartbeats 32000000 in
set_option maxRecDepth 100000 in
theorem SampleShares_any (total : Int) (to' : Option Addr) (ts : List Int) (tc : Nat) (w : World) (ht : RdZ w to' tc ts) :
    Calls Try.prog 4 #[.int .i64 total, .slice to' ts.length tc] w fun e w' => e = .returned (.bool true) ∧ Below w.heap.size w w' := by
  obtain ⟨W1, hW1⟩ : ∃ W, W = w.alloc (.cells #[.slice to' ts.length tc, .int .i64 0] 26) := ⟨_, rfl⟩
  obtain ⟨B, hB⟩ : ∃ B, B = w.heap.size := ⟨_, rfl⟩
  have b1 : Below w.heap.size w W1 := by rw [hW1]; exact below_new _ _
  have T1 : Hid (Tap W1 B to' ts.length tc 0) := by rw [hW1, hB]; exact Tap.new w to' ts.length tc
  have R1 : Hid (RdZ W1 to' tc ts) := ht.below b1
  have hTB : Hid (0 < (intz ts).length → ∀ b o, to' = some ⟨b, o, none⟩ → b < B) := fun h b o e => by rw [hB]; exact ht.lt h b o e
  have s1 : Hid (W1.heap.size = B + 1) := by unfold Hid; rw [hW1, hB]; exact World.size_alloc _ _
  have B1 := Lib.hid b1
  have HBB : Hid (B = w.heap.size) := hB
  clear ht b1
  go_enter Try.func4, Try.ntmps4
  go_wp2_with fail
  rw [← hW1]
  try rw [← hB]
  clear hW1 hB
  refine (Next_v B to' tc ts 0 8 _ T1.out R1.out (by omega) (by omega) (by omega) 8 rfl).mono ?_; rintro e W2 ⟨r1, rfl, hr1, g2, z2, t2⟩
  have R2 := Lib.hid (rd_gbE R1.out hTB.out (by rw [s1.out]; omega) g2)
  have G2 := Lib.hid g2
  have T2 := Lib.hid t2
  have s2 : Hid (W2.heap.size = B + 1) := by unfold Hid; rw [z2, s1.out]
  obtain ⟨N, hN⟩ : ∃ x : Nat, x = 1 + r1 := ⟨_, rfl⟩
  have hN8 : N ≤ 8 := by omega
  have hN1 : 1 ≤ N := by omega
  have hNi : 1 + (r1 : Int) = (N : Int) := by omega
  have hNw : IntKind.i64.wrap (N : Int) = (N : Int) := IntWalk.i64_in _ (by omega)
  clear hN hr1 T1 R1 g2 z2 t2 s1
  go_wp2_with fail
  refine (Ratios_v B to' tc ts 1 N _ T2.out R2.out hTB.out (by omega) (by omega)).mono ?_; rintro e W3 ⟨v, rs, xs, rfl, hown, hrl, hlc, hsx, g3, -⟩
  obtain ⟨la, lc, rfl, hrd⟩ := RdR.of_row hown
  rw [hrl]
  have HB3 : Hid (Below w.heap.size w W3) := B1.out.trans (row_gb (gb_trans G2.out g3) B1.out.size (fun j e => by cases e; rw [HBB.out]; exact Nat.le_refl _))
  obtain ⟨f, hf⟩ : ∃ f : Nat → Rat, f = fun j => xs.getD j 0 := ⟨_, rfl⟩
  have hxl : xs.length = N := by rw [← hlc.1, hrl]
  have HRL : Hid (RL W3 rs f N 2) := ⟨hrl, fun i hi => by rw [hf]; exact (hlc.2 i (by rw [hrl]; exact hi)).rq⟩
  have HSG : Hid (∀ i, i < N → sgn (f i) = 1) := fun i hi => by
    rw [hf]
    refine hsx _ ?_
    show xs.getD i 0 ∈ xs
    have e : xs.getD i 0 = xs[i]'(by omega) := by simp [List.getD, show i < xs.length by omega]
    rw [e]
    exact List.getElem_mem _
  have HLS : Hid (Ls W3 rs xs 2) := hlc.ls
  have HRD := Lib.hid hrd
  have HSS : Hid (qsum xs = qs f N) := by unfold Hid; rw [hf, ← hxl, qs_list]
  have hHA : Hid (allP f N = true) := (allP_iff f N).2 (fun i hi => by rw [HSG.out i hi]; decide)
  have hHY : Hid (anyP f N = true) := (anyP_iff f N).2 ⟨0, by omega, by rw [HSG.out 0 (by omega)]; decide⟩
  have HRN : Hid (rs.length = N) := hrl
  have hlc3 : N ≤ lc := by have := hrd.1; omega
  have hlc4 := hrd.2.1
  clear hown hrl hlc hsx g3 hrd hf hxl T2 R2 hTB G2 s2 B1 HBB hNi hNw
  go_wp2_with fail
  refine (FoldB_v total 1048577 (by omega) (by omega) _ 1048577 rfl).mono ?_; rintro e W3' ⟨t, rfl, ht, rfl⟩
  have AL := Lib.hid (Allocate_v (t : Int) N 2 la lc rs f W3 (by omega) ⟨by omega, by omega⟩ HRD.out HRL.out)
  have ht0 : (t : Int) ≤ 1048576 := by omega
  go_wp2_with fail
  refine AL.out.mono ?_; rintro e W4 h4
  rcases h4 with ⟨h, -⟩ | ⟨-, h, -⟩ | ⟨-, t', htt, -, od, g, ho, rfl, hrow, b4⟩
  · rw [hHA.out, hHY.out] at h; exact absurd h (by decide)
  · omega
  obtain rfl : t' = t := by omega
  obtain ⟨P, hP⟩ : ∃ P, P = partA f N t' od := ⟨_, rfl⟩
  have h0P := sN_pos hHA.out hHY.out
  have HPS : Hid (sN P N = t') := by unfold Hid; rw [hP]; exact parts_sum ho (by omega) h0P
  have HDV : Hid (∀ i, i < N → (f i * (t' : Rat) / qs f N - ((P i : Nat) : Rat)) * (f i * (t' : Rat) / qs f N - ((P i : Nat) : Rat)) < 1) := fun i hi => by rw [hP]; exact share_dev hHA.out hHY.out ho hi
  have HPC : Hid (∀ i, i < N → W4.cell? ⟨g, i, none⟩ = some (.int .i64 ((P i : Nat) : Int))) := fun i hi => by
    have h := (hrow.cellAt i (by omega)).trans (rowF_get hi)
    rw [hP]
    simpa [partA] using h
  have HS0 : Hid (qs f N ≠ 0) := (any_sum hHA.out).1 hHY.out
  have HB4 : Hid (Below w.heap.size w W4) := HB3.out.trans (b4.mono HB3.out.size)
  have HRD4 := Lib.hid (HRD.out.below b4)
  have HRL4 := Lib.hid (HRL.out.below b4)
  have SUM : Hid (Calls Try.prog 14 #[.slice la N lc] W4 (MakesQ (qs f N) (kq 2 N) W4)) := by
    have := rSum_k 2 (by omega) (by omega) xs la lc rs W4 HRD4.out (by rw [HRN.out]; omega) (HLS.out.below b4)
    rwa [HRN.out, HSS.out] at this
  obtain ⟨K, hK⟩ : ∃ K, K = kq 2 N := ⟨_, rfl⟩
  have hK5 : 5 ≤ K := by rw [hK]; exact kq_five hN1
  have hK6 : K ≤ 4100096 := by rw [hK]; exact kq_le (by omega) (by omega)
  obtain ⟨S, hS⟩ : ∃ S, S = qs f N := ⟨_, rfl⟩
  unfold Hid at SUM HDV HS0
  rw [← hK, ← hS] at SUM
  rw [← hS] at HDV HS0
  have SUM := Lib.hid SUM
  have HDV := Lib.hid HDV
  have HS0 := Lib.hid HS0
  have htw : Hid (t' ≤ 1048576) := by unfold Hid; omega
  clear h0P hrow b4 ho hP hK hS AL HRD HRL HLS HSS hHA hHY HSG HB3 htt
  have E0 : ((0 : Int) != 0) = false := rfl
  have EN : ((N : Int) != (N : Int)) = false := by simp
  go_wp2_with fail
  refine SUM.out.mono ?_; rintro e W5 ⟨sS, aS, nS, cS, oS, mS, dS, rfl, cqS, bS⟩
  obtain ⟨W6, hW6⟩ : ∃ W, W = W5.alloc (.cells #[.bool sS, .slice aS nS cS, .slice oS mS dS] 33) := ⟨_, rfl⟩
  obtain ⟨gS, hgS⟩ : ∃ g, g = W5.heap.size := ⟨_, rfl⟩
  have b6 : Below W5.heap.size W5 W6 := by rw [hW6]; exact below_new _ _
  have XS : Hid (W6.heap[gS]? = some (.cells #[.bool sS, .slice aS nS cS, .slice oS mS dS] 33 (0, 0))) := by rw [hW6, hgS]; exact heap_alloc_new _ _
  have bb := bS.trans (b6.mono bS.size)
  have HB6 : Hid (Below w.heap.size w W6) := HB4.out.trans (bb.mono HB4.out.size)
  have RS : Hid (RQ W6 sS aS nS cS oS mS dS S K) := (cqS.below b6).rq
  have HRD6 := Lib.hid (HRD4.out.below bb)
  have HRL6 := Lib.hid (HRL4.out.below bb)
  have HPC6 : Hid (∀ i, i < N → W6.cell? ⟨g, i, none⟩ = some (.int .i64 ((P i : Nat) : Int))) := fun i hi => (bb.cell (World.block_lt_of_cell? _ _ (HPC.out i hi))).trans (HPC.out i hi)
  clear b6 bb bS cqS HB4 HRD4 HRL4 HPC SUM
  go_upto_region 9 with fail
  rw [← hW6]
  try rw [← hgS]
  clear hW6 hgS
  go_wp2_with fail
  go_loopw [47, 10] (fun s47 s10 wr => ∃ (i : Nat) (l : Int), i ≤ N ∧ s47 = .int .i64 (i : Int) ∧ s10 = .int .i64 l ∧ Hid (l = (t' : Int) - ((sN P i : Nat) : Int)) ∧ Hid (Below W6.heap.size W6 wr)) (fun s47 _ _ => N - (intOf s47).toNat)
  case atStart => exact ⟨0, (t' : Int), by omega, rfl, rfl, by show (t' : Int) = (t' : Int) - ((0 : Nat) : Int); omega, Below.refl _ _⟩
  case round =>
    obtain ⟨i, l, hiN, rfl, rfl, hl, hbl⟩ := hrel
    by_cases hlt : i < N
    · have hlt2 : (i : Int) < (N : Int) := by omega
      obtain ⟨p, hp⟩ : ∃ p, p = P i := ⟨_, rfl⟩
      have kp := (hbl.out.cell (World.block_lt_of_cell? _ _ (HPC6.out i hlt))).trans (HPC6.out i hlt)
      rw [← hp] at kp
      have hsl : sN P (i + 1) = sN P i + P i := rfl
      have hsm := sN_mono P (show i + 1 ≤ N by omega)
      have hps := HPS.out
      obtain ⟨l1, hl1⟩ : ∃ l1 : Int, l1 = l - (p : Int) := ⟨_, rfl⟩
      have hl1e : Hid (l1 = (t' : Int) - ((sN P (i + 1) : Nat) : Int)) := by unfold Hid; rw [hl1, hl.out, hsl, hp]; omega
      have hpb : (p : Int) ≤ 1048576 := by rw [hp]; have := htw.out; omega
      have hl1i : l - (p : Int) = l1 := hl1.symm
      have hl1w : IntKind.i64.wrap l1 = l1 := IntWalk.i64_in _ (by have := hl1e.out; have := htw.out; omega)
      obtain ⟨b, o, rfl, hat⟩ := HRD6.out.at (by rw [HRN.out]; omega)
      obtain ⟨r, hre⟩ : ∃ r, r = rs.getD i RV.nil := ⟨_, rfl⟩
      obtain ⟨X, hX⟩ : ∃ X, X = f i := ⟨_, rfl⟩
      have x1 := (hat i (by rw [HRN.out]; exact hlt)).below hbl.out
      have q1 : RQ wr r.s r.ao r.n r.ca r.bo r.m r.cb X 2 := by rw [hre, hX]; exact (HRL6.out.2 i hlt).below hbl.out
      rw [← hre] at x1
      obtain ⟨D, hD⟩ : ∃ D, D = X * (t' : Rat) / S - (p : Rat) := ⟨_, rfl⟩
      have HDE : Hid (X * (t' : Rat) / S - (p : Rat) = D) := hD.symm
      have HDD : Hid (D * D < 1) := by unfold Hid; rw [hD, hX, hp]; exact HDV.out i hlt
      obtain ⟨K2, hK2⟩ : ∃ K2, K2 = K + K + 1 := ⟨_, rfl⟩
      obtain ⟨K3, hK3⟩ : ∃ K3, K3 = K2 + K2 + 1 := ⟨_, rfl⟩
      have KU : Hid (∀ w', Below wr.heap.size wr w' → At3 w' b (o + i * 3) r) := fun w' hb => x1.below hb
      have KS : Hid (∀ w', Below wr.heap.size wr w' → w'.cell? ⟨gS, 0, none⟩ = some (.bool sS) ∧ w'.cell? ⟨gS, 1, none⟩ = some (.slice aS nS cS) ∧ w'.cell? ⟨gS, 2, none⟩ = some (.slice oS mS dS)) := fun w' hb => by
        obtain ⟨k0, k1, k2, _⟩ := at_block (carry (carry XS.out hbl.out) hb)
        exact ⟨k0, k1, k2⟩
      have FT : Hid (∀ w', Calls Try.prog 17 #[.int .i64 (t' : Int)] w' (MakesQ (t' : Rat) 2 w')) := fun w' => by
        have := rFromInt_z (t' : Int) (by omega) (by have := htw.out; omega) w'
        rwa [Rat.intCast_natCast] at this
      have FP : Hid (∀ w', Calls Try.prog 17 #[.int .i64 (p : Int)] w' (MakesQ (p : Rat) 2 w')) := fun w' => by
        have := rFromInt_z (p : Int) (by omega) (by omega) w'
        rwa [Rat.intCast_natCast] at this
      have MU : Hid (∀ w', Below wr.heap.size wr w' → ∀ t po n' ca' qo l cb', RQ w' t po n' ca' qo l cb' (t' : Rat) 2 → Calls Try.prog 16 #[.agg #[.bool r.s, .slice r.ao r.n r.ca, .slice r.bo r.m r.cb], .agg #[.bool t, .slice po n' ca', .slice qo l cb']] w' (MakesQ (X * (t' : Rat)) 5 w')) := fun w' hb t po n' ca' qo l cb' h1 => rMul_q _ _ _ _ _ _ _ _ _ _ _ _ _ _ 2 X (t' : Rat) w' (q1.below hb) h1 (by omega)
      have QU : Hid (∀ w', Below wr.heap.size wr w' → ∀ t po n' ca' qo l cb', RQ w' t po n' ca' qo l cb' (X * (t' : Rat)) 5 → Calls Try.prog 15 #[.agg #[.bool t, .slice po n' ca', .slice qo l cb'], .agg #[.bool sS, .slice aS nS cS, .slice oS mS dS]] w' (MakesE (X * (t' : Rat) / S) K2 w')) := fun w' hb t po n' ca' qo l cb' h1 => by
        rw [hK2]
        exact rQuo_q _ _ _ _ _ _ _ _ _ _ _ _ _ _ K _ S w' (h1.up hK5 (by omega)) ((RS.out.below hbl.out).below hb) (by omega) HS0.out
      have HK : Hid (5 ≤ K2 ∧ K3 = K2 + K2 + 1 ∧ K3 ≤ 100000000) := ⟨by omega, hK3, by omega⟩
      have HBL := Lib.hid hbl.out
      clear hp hsl hsm hps hl1 hl hX hre x1 q1 hat hD hK2 hK3 hbl
      go_upto_region 13 with fail
      go_cut [14, 15] from 55 to 66 (fun vb ve wx => ve = .int .i64 0 ∧ BoxQ wr (X * (t' : Rat) / S) K2 vb wx)
      case first =>
        refine wp_region_any (by kernel_rfl) ?_
        refine region_ssa [56, 57, 58, 59, 60, 61, 62, 63, 64, 55, 65, 66, 14, 15] (Below wr.heap.size wr) (ExtT 33 wr.heap.size) (LsP [kV (.slice (some ⟨b, o, none⟩) N lc), kV (.int .i64 (i : Int)), kV (.pointer (some ⟨b, o + i * 3, none⟩)), kV (.agg #[.bool r.s, .slice r.ao r.n r.ca, .slice r.bo r.m r.cb]), kV (.int .i64 (t' : Int)), kQ ((t' : Rat)) (2), kQ (X * (t' : Rat)) (5), kV (.agg #[.bool sS, .slice aS nS cS, .slice oS mS dS]), kE (0) (X * (t' : Rat) / S) (K2), kE (0) (X * (t' : Rat) / S) (K2), kQ (X * (t' : Rat) / S) (K2), kV (.int .i64 0), kBox 33 wr.heap.size, kAny, kV (.int .i64 0)]) (OneX 33 13 14 65) (fun f => rfl) (by kernel_rfl) (by kernel_rfl) ?_ ?_ ?_ ?_ (AllFrom.below (n := 15) ?_) ?_
        · exact (Below.refl _ _).drew
        · intro f h; cases h
        · intro jx vx w1 w2 _ h hE; exact LsP.ext (StTL.all (l := [kV (.slice (some ⟨b, o, none⟩) N lc), kV (.int .i64 (i : Int)), kV (.pointer (some ⟨b, o + i * 3, none⟩)), kV (.agg #[.bool r.s, .slice r.ao r.n r.ca, .slice r.bo r.m r.cb]), kV (.int .i64 (t' : Int)), kQ ((t' : Rat)) (2), kQ (X * (t' : Rat)) (5), kV (.agg #[.bool sS, .slice aS nS cS, .slice oS mS dS]), kE (0) (X * (t' : Rat) / S) (K2), kE (0) (X * (t' : Rat) / S) (K2), kQ (X * (t' : Rat) / S) (K2), kV (.int .i64 0), kBox 33 wr.heap.size, kAny, kV (.int .i64 0)]) ⟨StT.v _ _, StT.v _ _, StT.v _ _, StT.v _ _, StT.v _ _, StT.q (by decide) _ _, StT.q (by decide) _ _, StT.v _ _, StT.e (by decide) _ _ _, StT.e (by decide) _ _ _, StT.q (by decide) _ _, StT.v _ _, StT.box _ _, StT.any _, StT.v _ _, trivial⟩) jx vx w1 w2 h hE
        · intro w1 w2 hB hE; exact hB.trans hE.1
        · refine AllFrom.step (m := 14) (j := 1) rfl ?_ ?_
          · intro D f w1 hD hB hR hp hcl hX
            refine wpOp_step rfl (fun K hK => ?_)
            simp only [putAll, Act.put, List.setIfInBounds_toArray, List.set_cons_succ, List.set_cons_zero]
            go_simp
            exact hK _ _ ⟨.slice (some ⟨b, o, none⟩) N lc, (by show _ = Act.put _ (some 56) _; simp only [putAll, Act.put, List.setIfInBounds_toArray, List.set_cons_succ, List.set_cons_zero, *]), rfl, ExtT.refl _ _ _, fun h => absurd h (no_of (D := D) (hcl 13) (by kernel_rfl) hD)⟩
          refine AllFrom.step (m := 13) (j := 2) rfl ?_ ?_
          · intro D f w1 hD hB hR hp hcl hX
            refine wpOp_step rfl (fun K hK => ?_)
            simp only [putAll, Act.put, List.setIfInBounds_toArray, List.set_cons_succ, List.set_cons_zero]
            go_simp
            exact hK _ _ ⟨.int .i64 (i : Int), (by show _ = Act.put _ (some 57) _; simp only [putAll, Act.put, List.setIfInBounds_toArray, List.set_cons_succ, List.set_cons_zero, *]), rfl, ExtT.refl _ _ _, fun h => absurd h (no_of (D := D) (hcl 13) (by kernel_rfl) hD)⟩
          refine AllFrom.step (m := 12) (j := 3) rfl ?_ ?_
          · intro D f w1 hD hB hR hp hcl hX
            have e0 : f 56 = .slice (some ⟨b, o, none⟩) N lc := (hp_at hp 0 (by kernel_rfl)).2
            have e1 : f 57 = .int .i64 (i : Int) := (hp_at hp 1 (by kernel_rfl)).2
            refine wpOp_step rfl (fun K hK => ?_)
            simp only [putAll, Act.put, List.setIfInBounds_toArray, List.set_cons_succ, List.set_cons_zero]
            go_simp
            exact hK _ _ ⟨.pointer (some ⟨b, o + i * 3, none⟩), (by show _ = Act.put _ (some 58) _; simp only [putAll, Act.put, List.setIfInBounds_toArray, List.set_cons_succ, List.set_cons_zero, *]), rfl, ExtT.refl _ _ _, fun h => absurd h (no_of (D := D) (hcl 13) (by kernel_rfl) hD)⟩
          refine AllFrom.step (m := 11) (j := 4) rfl ?_ ?_
          · intro D f w1 hD hB hR hp hcl hX
            have e2 : f 58 = .pointer (some ⟨b, o + i * 3, none⟩) := (hp_at hp 2 (by kernel_rfl)).2
            obtain ⟨k0, k1, k2⟩ := KU.out w1 hB
            obtain ⟨j0, j1, j2⟩ := KS.out w1 hB
            refine wpOp_step rfl (fun K hK => ?_)
            simp only [putAll, Act.put, List.setIfInBounds_toArray, List.set_cons_succ, List.set_cons_zero]
            go_simp
            exact hK _ _ ⟨.agg #[.bool r.s, .slice r.ao r.n r.ca, .slice r.bo r.m r.cb], (by show _ = Act.put _ (some 59) _; simp only [putAll, Act.put, List.setIfInBounds_toArray, List.set_cons_succ, List.set_cons_zero, *]), rfl, ExtT.refl _ _ _, fun h => absurd h (no_of (D := D) (hcl 13) (by kernel_rfl) hD)⟩
          refine AllFrom.step (m := 10) (j := 5) rfl ?_ ?_
          · intro D f w1 hD hB hR hp hcl hX
            refine wpOp_step rfl (fun K hK => ?_)
            simp only [putAll, Act.put, List.setIfInBounds_toArray, List.set_cons_succ, List.set_cons_zero]
            go_simp
            exact hK _ _ ⟨.int .i64 (t' : Int), (by show _ = Act.put _ (some 60) _; simp only [putAll, Act.put, List.setIfInBounds_toArray, List.set_cons_succ, List.set_cons_zero, *]), rfl, ExtT.refl _ _ _, fun h => absurd h (no_of (D := D) (hcl 13) (by kernel_rfl) hD)⟩
          refine AllFrom.step (m := 9) (j := 6) rfl ?_ ?_
          · intro D f w1 hD hB hR hp hcl hX
            have e4 : f 60 = .int .i64 (t' : Int) := (hp_at hp 4 (by kernel_rfl)).2
            refine wpOp_step rfl (fun K hK => ?_)
            simp only [putAll, Act.put, List.setIfInBounds_toArray, List.set_cons_succ, List.set_cons_zero]
            go_simp
            refine (FT.out _).mono ?_
            rintro e w2 ⟨s9, a9, n9, c9, o9, m9, d9, rfl, cq, hb⟩
            go_simp
            exact hK _ _ ⟨.agg #[.bool s9, .slice a9 n9 c9, .slice o9 m9 d9], (by show _ = Act.put _ (some 61) _; simp only [putAll, Act.put, List.setIfInBounds_toArray, List.set_cons_succ, List.set_cons_zero, *]), ⟨_, _, _, _, _, _, _, rfl, cq.mono (Nat.zero_le _)⟩, ExtT.of_below hb hB.size, fun h => absurd h (no_of (D := D) (hcl 13) (by kernel_rfl) hD)⟩
          refine AllFrom.step (m := 8) (j := 7) rfl ?_ ?_
          · intro D f w1 hD hB hR hp hcl hX
            have e3 : f 59 = .agg #[.bool r.s, .slice r.ao r.n r.ca, .slice r.bo r.m r.cb] := (hp_at hp 3 (by kernel_rfl)).2
            obtain ⟨s5, a5, n5, c5, o5, m5, d5, e5, q5⟩ := (hp_at hp 5 (by kernel_rfl)).2
            replace e5 : f 61 = _ := e5
            refine wpOp_step rfl (fun K hK => ?_)
            simp only [putAll, Act.put, List.setIfInBounds_toArray, List.set_cons_succ, List.set_cons_zero]
            go_simp
            refine (MU.out _ hB _ _ _ _ _ _ _ q5.rq).mono ?_
            rintro e w2 ⟨s9, a9, n9, c9, o9, m9, d9, rfl, cq, hb⟩
            go_simp
            exact hK _ _ ⟨.agg #[.bool s9, .slice a9 n9 c9, .slice o9 m9 d9], (by show _ = Act.put _ (some 62) _; simp only [putAll, Act.put, List.setIfInBounds_toArray, List.set_cons_succ, List.set_cons_zero, *]), ⟨_, _, _, _, _, _, _, rfl, cq.mono (Nat.zero_le _)⟩, ExtT.of_below hb hB.size, fun h => absurd h (no_of (D := D) (hcl 13) (by kernel_rfl) hD)⟩
          refine AllFrom.step (m := 7) (j := 8) rfl ?_ ?_
          · intro D f w1 hD hB hR hp hcl hX
            obtain ⟨k0, k1, k2⟩ := KU.out w1 hB
            obtain ⟨j0, j1, j2⟩ := KS.out w1 hB
            refine wpOp_step rfl (fun K hK => ?_)
            simp only [putAll, Act.put, List.setIfInBounds_toArray, List.set_cons_succ, List.set_cons_zero]
            go_simp
            exact hK _ _ ⟨.agg #[.bool sS, .slice aS nS cS, .slice oS mS dS], (by show _ = Act.put _ (some 63) _; simp only [putAll, Act.put, List.setIfInBounds_toArray, List.set_cons_succ, List.set_cons_zero, *]), rfl, ExtT.refl _ _ _, fun h => absurd h (no_of (D := D) (hcl 13) (by kernel_rfl) hD)⟩
          refine AllFrom.step (m := 6) (j := 9) rfl ?_ ?_
          · intro D f w1 hD hB hR hp hcl hX
            obtain ⟨s6, a6, n6, c6, o6, m6, d6, e6, q6⟩ := (hp_at hp 6 (by kernel_rfl)).2
            replace e6 : f 62 = _ := e6
            have e7 : f 63 = .agg #[.bool sS, .slice aS nS cS, .slice oS mS dS] := (hp_at hp 7 (by kernel_rfl)).2
            refine wpOp_step rfl (fun K hK => ?_)
            simp only [putAll, Act.put, List.setIfInBounds_toArray, List.set_cons_succ, List.set_cons_zero]
            go_simp
            refine (QU.out _ hB _ _ _ _ _ _ _ q6.rq).mono ?_
            rintro e w2 ⟨s9, a9, n9, c9, o9, m9, d9, rfl, cq, hb⟩
            go_simp
            exact hK _ _ ⟨.tuple #[.agg #[.bool s9, .slice a9 n9 c9, .slice o9 m9 d9], .int .i64 0], (by show _ = Act.put _ (some 64) _; simp only [putAll, Act.put, List.setIfInBounds_toArray, List.set_cons_succ, List.set_cons_zero, *]), ⟨_, _, _, _, _, _, _, rfl, cq.mono (Nat.zero_le _)⟩, ExtT.of_below hb hB.size, fun h => absurd h (no_of (D := D) (hcl 13) (by kernel_rfl) hD)⟩
          refine AllFrom.step (m := 5) (j := 10) rfl ?_ ?_
          · intro D f w1 hD hB hR hp hcl hX
            obtain ⟨s8, a8, n8, c8, o8, m8, d8, e8, q8⟩ := (hp_at hp 8 (by kernel_rfl)).2
            replace e8 : f 64 = _ := e8
            refine wpOp_step rfl (fun K hK => ?_)
            simp only [putAll, Act.put, List.setIfInBounds_toArray, List.set_cons_succ, List.set_cons_zero]
            go_simp
            exact hK _ _ ⟨.tuple #[.agg #[.bool s8, .slice a8 n8 c8, .slice o8 m8 d8], .int .i64 0], (by show _ = Act.put _ (some 55) _; simp only [putAll, Act.put, List.setIfInBounds_toArray, List.set_cons_succ, List.set_cons_zero, *]), ⟨_, _, _, _, _, _, _, rfl, q8⟩, ExtT.refl _ _ _, fun h => absurd h (no_of (D := D) (hcl 13) (by kernel_rfl) hD)⟩
          refine AllFrom.step (m := 4) (j := 11) rfl ?_ ?_
          · intro D f w1 hD hB hR hp hcl hX
            obtain ⟨s9, a9, n9, c9, o9, m9, d9, e9, q9⟩ := (hp_at hp 9 (by kernel_rfl)).2
            replace e9 : f 55 = _ := e9
            refine wpOp_step rfl (fun K hK => ?_)
            simp only [putAll, Act.put, List.setIfInBounds_toArray, List.set_cons_succ, List.set_cons_zero]
            go_simp
            exact hK _ _ ⟨.agg #[.bool s9, .slice a9 n9 c9, .slice o9 m9 d9], (by show _ = Act.put _ (some 65) _; simp only [putAll, Act.put, List.setIfInBounds_toArray, List.set_cons_succ, List.set_cons_zero, *]), ⟨_, _, _, _, _, _, _, rfl, q9⟩, ExtT.refl _ _ _, fun h => absurd h (no_of (D := D) (hcl 13) (by kernel_rfl) hD)⟩
          refine AllFrom.step (m := 3) (j := 12) rfl ?_ ?_
          · intro D f w1 hD hB hR hp hcl hX
            obtain ⟨s9, a9, n9, c9, o9, m9, d9, e9, q9⟩ := (hp_at hp 9 (by kernel_rfl)).2
            replace e9 : f 55 = _ := e9
            refine wpOp_step rfl (fun K hK => ?_)
            simp only [putAll, Act.put, List.setIfInBounds_toArray, List.set_cons_succ, List.set_cons_zero]
            go_simp
            exact hK _ _ ⟨.int .i64 0, (by show _ = Act.put _ (some 66) _; simp only [putAll, Act.put, List.setIfInBounds_toArray, List.set_cons_succ, List.set_cons_zero, *]), rfl, ExtT.refl _ _ _, hX⟩
          refine AllFrom.step (m := 2) (j := 13) rfl ?_ ?_
          · intro D f w1 hD hB hR hp hcl hX
            refine wpOp_step rfl (fun K hK => ?_)
            simp only [putAll, Act.put, List.setIfInBounds_toArray, List.set_cons_succ, List.set_cons_zero]
            go_simp
            exact hK _ _ ⟨.pointer (some ⟨w1.heap.size, 0, none⟩), (by show _ = Act.put _ (some 14) _; simp only [putAll, Act.put, List.setIfInBounds_toArray, List.set_cons_succ, List.set_cons_zero, *]), ⟨w1.heap.size, rfl, hB.size, newBT _ _ _ _ _⟩, ExtT.of_below (below_new _ _) hB.size, fun h => absurd h (no_of (D := D) (hcl 13) (by kernel_rfl) hD)⟩
          refine AllFrom.step (m := 1) (j := 14) rfl ?_ ?_
          · intro D f w1 hD hB hR hp hcl hX
            obtain ⟨g, eg, hg, hb⟩ := (hp_at hp 12 (by kernel_rfl)).2
            obtain ⟨s5, a5, n5, c5, o5, m5, d5, ev, hcq⟩ := (hp_at hp 10 (by kernel_rfl)).2
            replace ev : f 65 = _ := ev
            replace eg : f 14 = _ := eg
            obtain ⟨u0, u1, u2, q0, q1, q2, z0, z1, z2⟩ := hb.facts
            refine wpOp_step rfl (fun K hK => ?_)
            simp only [putAll, Act.put, List.setIfInBounds_toArray, List.set_cons_succ, List.set_cons_zero]
            go_simp
            exact hK _ _ ⟨undef, (by show _ = Act.put _ (none) _; simp only [putAll, Act.put, List.setIfInBounds_toArray, List.set_cons_succ, List.set_cons_zero, *]), trivial, ExtT.set3 hb hg _ _ _, fun _ => by show HoldsT _ _ (f 14) (f 65); rw [eg, ev]; exact HoldsT.new hb _ _ _⟩
          refine AllFrom.step (m := 0) (j := 15) rfl ?_ ?_
          · intro D f w1 hD hB hR hp hcl hX
            have e11 : f 66 = .int .i64 0 := (hp_at hp 11 (by kernel_rfl)).2
            refine wpOp_step rfl (fun K hK => ?_)
            simp only [putAll, Act.put, List.setIfInBounds_toArray, List.set_cons_succ, List.set_cons_zero]
            go_simp
            exact hK _ _ ⟨.int .i64 0, (by show _ = Act.put _ (some 15) _; simp only [putAll, Act.put, List.setIfInBounds_toArray, List.set_cons_succ, List.set_cons_zero, *]), rfl, ExtT.refl _ _ _, hX⟩
          exact AllFrom.nil
        · intro D f w1 hall hB hR hX
          simp only [putAll, Act.put, List.setIfInBounds_toArray, List.set_cons_succ, List.set_cons_zero]
          go_wp2_with fail
          go_meet
          exact ⟨hR 14 (by decide), box_cut hB (hR 12 (by decide)) (hX (hall 13 (by decide))) (hR 10 (by decide))⟩
      rename World => W7
      obtain ⟨rfl, g7, s7, a7, n7, c7, o7, m7, d7, rfl, hg7, x7, cq7, b7⟩ := hcut
      have HB7 : Hid (Below W6.heap.size W6 W7) := HBL.out.trans (b7.mono HBL.out.size)
      have K7 : Hid (∀ w', Below W7.heap.size W7 w' → w'.cell? ⟨g7, 0, none⟩ = some (.bool s7) ∧ w'.cell? ⟨g7, 1, none⟩ = some (.slice a7 n7 c7) ∧ w'.cell? ⟨g7, 2, none⟩ = some (.slice o7 m7 d7)) := fun w' hb => by
        obtain ⟨k0, k1, k2, _⟩ := at_block (carry x7 hb)
        exact ⟨k0, k1, k2⟩
      have SB : Hid (∀ w', Below W7.heap.size W7 w' → ∀ t po n' ca' qo l cb', RQ w' t po n' ca' qo l cb' (p : Rat) 2 → Calls Try.prog 18 #[.agg #[.bool s7, .slice a7 n7 c7, .slice o7 m7 d7], .agg #[.bool t, .slice po n' ca', .slice qo l cb']] w' (MakesQ D K3 w')) := fun w' hb t po n' ca' qo l cb' h1 => by
        rw [HK.out.2.1, ← HDE.out]
        exact rSub_q _ _ _ _ _ _ _ _ _ _ _ _ _ _ K2 _ _ w' ((cq7.below hb).rq) (h1.up (by have := HK.out; omega) (by have := HK.out; omega)) (by have := HK.out; omega)
      clear hg7 x7 cq7 b7 KU KS FT MU QU HDE kp
      go_upto_region 14 with fail
      go_cut [16] from 67 to 70 (fun vb wx => BoxQ W7 D K3 vb wx)
      case first =>
        refine wp_region_any (by kernel_rfl) ?_
        refine region_ssa [67, 68, 69, 70, 16] (Below W7.heap.size W7) (ExtT 33 W7.heap.size) (LsP [kV (.agg #[.bool s7, .slice a7 n7 c7, .slice o7 m7 d7]), kV (.int .i64 (p : Int)), kQ ((p : Rat)) (2), kQ (D) (K3), kBox 33 W7.heap.size, kAny]) (OneX 33 5 16 70) (fun f => rfl) (by kernel_rfl) (by kernel_rfl) ?_ ?_ ?_ ?_ (AllFrom.below (n := 6) ?_) ?_
        · exact (Below.refl _ _).drew
        · intro f h; cases h
        · intro jx vx w1 w2 _ h hE; exact LsP.ext (StTL.all (l := [kV (.agg #[.bool s7, .slice a7 n7 c7, .slice o7 m7 d7]), kV (.int .i64 (p : Int)), kQ ((p : Rat)) (2), kQ (D) (K3), kBox 33 W7.heap.size, kAny]) ⟨StT.v _ _, StT.v _ _, StT.q (by decide) _ _, StT.q (by decide) _ _, StT.box _ _, StT.any _, trivial⟩) jx vx w1 w2 h hE
        · intro w1 w2 hB hE; exact hB.trans hE.1
        · refine AllFrom.step (m := 5) (j := 1) rfl ?_ ?_
          · intro D f w1 hD hB hR hp hcl hX
            obtain ⟨j0, j1, j2⟩ := K7.out w1 hB
            refine wpOp_step rfl (fun K hK => ?_)
            simp only [putAll, Act.put, List.setIfInBounds_toArray, List.set_cons_succ, List.set_cons_zero]
            go_simp
            exact hK _ _ ⟨.agg #[.bool s7, .slice a7 n7 c7, .slice o7 m7 d7], (by show _ = Act.put _ (some 67) _; simp only [putAll, Act.put, List.setIfInBounds_toArray, List.set_cons_succ, List.set_cons_zero, *]), rfl, ExtT.refl _ _ _, fun h => absurd h (no_of (D := D) (hcl 5) (by kernel_rfl) hD)⟩
          refine AllFrom.step (m := 4) (j := 2) rfl ?_ ?_
          · intro D f w1 hD hB hR hp hcl hX
            refine wpOp_step rfl (fun K hK => ?_)
            simp only [putAll, Act.put, List.setIfInBounds_toArray, List.set_cons_succ, List.set_cons_zero]
            go_simp
            exact hK _ _ ⟨.int .i64 (p : Int), (by show _ = Act.put _ (some 68) _; simp only [putAll, Act.put, List.setIfInBounds_toArray, List.set_cons_succ, List.set_cons_zero, *]), rfl, ExtT.refl _ _ _, fun h => absurd h (no_of (D := D) (hcl 5) (by kernel_rfl) hD)⟩
          refine AllFrom.step (m := 3) (j := 3) rfl ?_ ?_
          · intro D f w1 hD hB hR hp hcl hX
            have e1 : f 68 = .int .i64 (p : Int) := (hp_at hp 1 (by kernel_rfl)).2
            refine wpOp_step rfl (fun K hK => ?_)
            simp only [putAll, Act.put, List.setIfInBounds_toArray, List.set_cons_succ, List.set_cons_zero]
            go_simp
            refine (FP.out _).mono ?_
            rintro e w2 ⟨s9, a9, n9, c9, o9, m9, d9, rfl, cq, hb⟩
            go_simp
            exact hK _ _ ⟨.agg #[.bool s9, .slice a9 n9 c9, .slice o9 m9 d9], (by show _ = Act.put _ (some 69) _; simp only [putAll, Act.put, List.setIfInBounds_toArray, List.set_cons_succ, List.set_cons_zero, *]), ⟨_, _, _, _, _, _, _, rfl, cq.mono (Nat.zero_le _)⟩, ExtT.of_below hb hB.size, fun h => absurd h (no_of (D := D) (hcl 5) (by kernel_rfl) hD)⟩
          refine AllFrom.step (m := 2) (j := 4) rfl ?_ ?_
          · intro D f w1 hD hB hR hp hcl hX
            have e0 : f 67 = .agg #[.bool s7, .slice a7 n7 c7, .slice o7 m7 d7] := (hp_at hp 0 (by kernel_rfl)).2
            obtain ⟨s2, a2, n2, c2, o2, m2, d2, e2, q2⟩ := (hp_at hp 2 (by kernel_rfl)).2
            replace e2 : f 69 = _ := e2
            refine wpOp_step rfl (fun K hK => ?_)
            simp only [putAll, Act.put, List.setIfInBounds_toArray, List.set_cons_succ, List.set_cons_zero]
            go_simp
            refine (SB.out _ hB _ _ _ _ _ _ _ q2.rq).mono ?_
            rintro e w2 ⟨s9, a9, n9, c9, o9, m9, d9, rfl, cq, hb⟩
            go_simp
            exact hK _ _ ⟨.agg #[.bool s9, .slice a9 n9 c9, .slice o9 m9 d9], (by show _ = Act.put _ (some 70) _; simp only [putAll, Act.put, List.setIfInBounds_toArray, List.set_cons_succ, List.set_cons_zero, *]), ⟨_, _, _, _, _, _, _, rfl, cq.mono (Nat.zero_le _)⟩, ExtT.of_below hb hB.size, fun h => absurd h (no_of (D := D) (hcl 5) (by kernel_rfl) hD)⟩
          refine AllFrom.step (m := 1) (j := 5) rfl ?_ ?_
          · intro D f w1 hD hB hR hp hcl hX
            refine wpOp_step rfl (fun K hK => ?_)
            simp only [putAll, Act.put, List.setIfInBounds_toArray, List.set_cons_succ, List.set_cons_zero]
            go_simp
            exact hK _ _ ⟨.pointer (some ⟨w1.heap.size, 0, none⟩), (by show _ = Act.put _ (some 16) _; simp only [putAll, Act.put, List.setIfInBounds_toArray, List.set_cons_succ, List.set_cons_zero, *]), ⟨w1.heap.size, rfl, hB.size, newBT _ _ _ _ _⟩, ExtT.of_below (below_new _ _) hB.size, fun h => absurd h (no_of (D := D) (hcl 5) (by kernel_rfl) hD)⟩
          refine AllFrom.step (m := 0) (j := 6) rfl ?_ ?_
          · intro D f w1 hD hB hR hp hcl hX
            obtain ⟨g, eg, hg, hb⟩ := (hp_at hp 4 (by kernel_rfl)).2
            obtain ⟨s5, a5, n5, c5, o5, m5, d5, ev, hcq⟩ := (hp_at hp 3 (by kernel_rfl)).2
            replace ev : f 70 = _ := ev
            replace eg : f 16 = _ := eg
            obtain ⟨u0, u1, u2, q0, q1, q2, z0, z1, z2⟩ := hb.facts
            refine wpOp_step rfl (fun K hK => ?_)
            simp only [putAll, Act.put, List.setIfInBounds_toArray, List.set_cons_succ, List.set_cons_zero]
            go_simp
            exact hK _ _ ⟨undef, (by show _ = Act.put _ (none) _; simp only [putAll, Act.put, List.setIfInBounds_toArray, List.set_cons_succ, List.set_cons_zero, *]), trivial, ExtT.set3 hb hg _ _ _, fun _ => by show HoldsT _ _ (f 16) (f 70); rw [eg, ev]; exact HoldsT.new hb _ _ _⟩
          exact AllFrom.nil
        · intro D f w1 hall hB hR hX
          simp only [putAll, Act.put, List.setIfInBounds_toArray, List.set_cons_succ, List.set_cons_zero]
          go_wp2_with fail
          go_meet
          exact box_cut hB (hR 4 (by decide)) (hX (hall 5 (by decide))) (hR 3 (by decide))
      rename World => W8
      obtain ⟨g8, s8, a8, n8, c8, o8, m8, d8, rfl, hg8, x8, cq8, b8⟩ := hcut
      have HB8 : Hid (Below W6.heap.size W6 W8) := HB7.out.trans (b8.mono HB7.out.size)
      have CQ8 := Lib.hid cq8
      obtain ⟨j0, j1, j2, _⟩ := at_block x8
      have hC : cq (D * D) 1 < 0 := (cq_neg_iff _ _).2 HDD.out
      obtain ⟨C, hCC⟩ : ∃ C, C = cq (D * D) 1 := ⟨_, rfl⟩
      have HCC := Lib.hid hCC
      rw [← hCC] at hC
      obtain ⟨K4, hK4⟩ : ∃ K4, K4 = K3 + K3 + 1 := ⟨_, rfl⟩
      have HK4 : Hid (K4 = K3 + K3 + 1) := hK4
      have hcd : decide (0 ≤ C) = false := decide_eq_false (by omega)
      clear hg8 x8 cq8 b8 hCC hK4 K7 SB FP HDD
      go_wp2_with fail
      refine (rMul_q _ _ _ _ _ _ _ _ _ _ _ _ _ _ K3 D D _ CQ8.out.rq CQ8.out.rq (by have := HK.out; omega)).mono ?_; rintro e V1 ⟨s9, a9, n9, c9, o9, m9, d9, rfl, cq9, v1⟩
      have CQ9 := Lib.hid cq9
      have HV1 := Lib.hid (HB8.out.trans (v1.mono HB8.out.size))
      clear cq9 v1 j0 j1 j2 CQ8
      go_wp2_with fail
      refine (rOne_q _).mono ?_; rintro e V2 ⟨s10, a10, n10, c10, o10, m10, d10, rfl, cq10, v2⟩
      have CQ9' := Lib.hid (CQ9.out.below v2)
      have CQ10 := Lib.hid cq10
      have HV2 := Lib.hid (HV1.out.trans (v2.mono HV1.out.size))
      clear cq10 v2 CQ9
      have CM : Hid (Calls Try.prog 19 #[.agg #[.bool s9, .slice a9 n9 c9, .slice o9 m9 d9], .agg #[.bool s10, .slice a10 n10 c10, .slice o10 m10 d10]] V2 fun e w' => e = .returned (.int .i64 C) ∧ Below V2.heap.size V2 w') := by
        rw [HCC.out]
        refine rCompare_q _ _ _ _ _ _ _ _ _ _ _ _ _ _ K4 (D * D) 1 V2 ?_ (CQ10.out.rq.up (by have := HK.out; have := HK4.out; omega) (by have := HK.out; have := HK4.out; omega)) (by have := HK.out; have := HK4.out; omega)
        rw [HK4.out]
        exact CQ9'.out.rq
      go_wp2_with fail
      refine CM.out.mono ?_; rintro e V3 ⟨rfl, v3⟩
      have HV3 := Lib.hid (HV2.out.trans (v3.mono HV2.out.size))
      clear v3 CM CQ9' CQ10 HV2 HV1
      go_wp2_with fail
      go_roundw
      case rel => exact ⟨i + 1, l1, by omega, by go_num, rfl, hl1e, HV3⟩
      case measure => simp [intOf]; omega
    · obtain rfl : i = N := by omega
      have hlt2 : ¬ (i : Int) < (i : Int) := by omega
      have hl0 : l = 0 := by have h1 := hl.out; rw [HPS.out] at h1; omega
      subst hl0
      have HBW : Hid (Below w.heap.size w wr) := HB6.out.trans (hbl.out.mono HB6.out.size)
      have EZ : ((0 : Int) == 0) = true := rfl
      clear hl hbl
      go_wp2_with fail
      refine (awake10 _).mono ?_; rintro e Z3 ⟨rfl, z3⟩
      have HZ3 := Lib.hid (HBW.out.trans (z3.mono HBW.out.size))
      clear z3
      go_wp2_with fail
      go_ret
      exact ⟨rfl, HZ3.out⟩
end Go.Proofs.Ytcnghhlchjcdhaa.Dr
