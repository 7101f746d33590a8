import Derived.Test.YtjgofoekocdecaaGreatDrE
import Derived.Test.YtjgofoekocdecaaGreatDrD
import Derived.Test.YtjgofoekocdecaaGreatEstA
import Derived.Test.YtjgofoekocdecaaGreatPows2
import Derived.Test.YtjgofoekocdecaaGreatSmpAw
import Derived.Test.YtjgofoekocdecaaGreatInts10
/- SampleDraws: the walk. -/
namespace Go.Proofs.YtjgofoekocdecaaGreat.Dr
open Go.RowKit Go.Sort C6 SN

theorem Same_l {ao bo : Option Addr} {ca cb L : Nat} {l : List Int} {w : World} (hL : L = l.length) (hp : RdZ w ao ca l) (hq : RdZ w bo cb l) :
    Calls Tryz.prog 14 #[.slice ao L ca, .slice bo L cb] w fun e w' => e = .returned (.bool true) ∧ Below w.heap.size w w' := by
  have h := S10.SameInts_v ao bo ca cb l l w hp hq
  rw [← hL] at h
  simpa using h

set_option maxHeartbeats 32000000 in
set_option maxRecDepth 100000 in
theorem SampleDraws_any (to' : Option Addr) (xs : List Int) (cap : Nat) (n : Int) (s : Bool) (ao : Option Addr) (us : List Nat) (ca : Nat) (bo : Option Addr) (vs : List Nat) (cb : Nat) (lo : Option Addr) (ts : List Int) (tc : Nat) (w : World) (hr : RdZ w to' cap xs) (hu : Rd w ao ca us) (hv : Rd w bo cb vs) (ht : RdZ w lo tc ts) :
    Calls Tryz.prog 3 #[.slice to' xs.length cap, .int .i64 n, .agg #[.bool s, .slice ao us.length ca, .slice bo vs.length cb], .slice lo ts.length tc] w fun e w' => e = .returned (.bool true) ∧ Below w.heap.size w w' := by
  have hl12 : (xs.take 12).length ≤ 12 := by rw [List.length_take]; omega
  have hr12 : RdZ w to' cap (xs.take 12) := by
    have := RdV.take hr 12
    unfold RdZ
    rwa [show intz (xs.take 12) = (intz xs).take 12 by simp [intz, List.map_take]]
  obtain ⟨ys, hys⟩ : ∃ ys, ys = xs.take 12 := ⟨_, rfl⟩
  rw [← hys] at hl12 hr12
  obtain ⟨us1, hus⟩ : ∃ u, u = us.take 1 := ⟨_, rfl⟩
  obtain ⟨vs1, hvs⟩ : ∃ u, u = vs.take 1 := ⟨_, rfl⟩
  have hq0 := small_rq (s := s) hu hv hus hvs
  obtain ⟨q, hq⟩ : ∃ q, q = rq s (val us1) (dn (val vs1)) := ⟨_, rfl⟩
  rw [← hq] at hq0
  obtain ⟨nx, hnx⟩ : ∃ n, n = xs.length := ⟨_, rfl⟩
  obtain ⟨ny, hny⟩ : ∃ n, n = ys.length := ⟨_, rfl⟩
  obtain ⟨nu, hnu⟩ : ∃ n, n = us.length := ⟨_, rfl⟩
  obtain ⟨nv, hnv⟩ : ∃ n, n = vs.length := ⟨_, rfl⟩
  obtain ⟨nu1, hnu1⟩ : ∃ n, n = us1.length := ⟨_, rfl⟩
  obtain ⟨nv1, hnv1⟩ : ∃ n, n = vs1.length := ⟨_, rfl⟩
  obtain ⟨W1, hW1⟩ : ∃ W, W = w.alloc (.cells #[.bool s, .slice ao nu ca, .slice bo nv cb] 26) := ⟨_, rfl⟩
  obtain ⟨gb, hgb⟩ : ∃ g, g = w.heap.size := ⟨_, rfl⟩
  have b1 : Below w.heap.size w W1 := by rw [hW1]; exact below_new _ _
  have x1 : W1.heap[gb]? = some (.cells #[.bool s, .slice ao nu ca, .slice bo nv cb] 26 (0, 0)) := by rw [hW1, hgb]; exact heap_alloc_new _ _
  have X1 := Lib.hid x1
  have HB1 := Lib.hid b1
  have HGB := Lib.hid hgb
  have hbw : ∀ w', W1.grownBy w' (some gb) → Below w.heap.size w w' := fun w' hb => b1.trans (row_gb hb b1.size (fun j e => by cases e; omega))
  have HBW : Hid (∀ w', W1.grownBy w' (some gb) → Below w.heap.size w w') := hbw
  have RW : Hid (∀ w', W1.grownBy w' (some gb) → Calls Tryz.prog 7 #[.slice to' nx cap] w' fun e w2 => e = .returned (.slice to' ny cap) ∧ w2 = w') := fun w' hb => by
    rw [hnx, hny, hys]; exact raw_d xs to' cap w' (hr.below (hbw w' hb))
  have SMC : Hid (∀ w', W1.grownBy w' (some gb) → Calls Tryz.prog 8 #[.agg #[.bool s, .slice ao nu ca, .slice bo nv cb]] w' fun e w2 => e = .returned (.agg #[.bool s, .slice ao nu1 ca, .slice bo nv1 cb]) ∧ Below w'.heap.size w' w2) := fun w' hb => by
    rw [hnu, hnv, hnu1, hnv1]; exact Small_any s ao bo ca cb us vs us1 vs1 w' (hu.below (hbw w' hb)) (hv.below (hbw w' hb)) hus hvs
  have HRY : Hid (∀ w', Below w.heap.size w w' → RdZ w' to' cap ys) := fun w' hb => hr12.below hb
  have HQ : Hid (∀ w', Below w.heap.size w w' → RQ w' s ao nu1 ca bo nv1 cb q 2) := fun w' hb => by rw [hnu1, hnv1]; exact hq0.below hb
  have HT : Hid (RdZ w lo tc ts) := ht
  have HNY : Hid (ny = ys.length ∧ ny ≤ 12) := ⟨hny, by omega⟩
  have I1 : Hid (∀ w', Below w.heap.size w w' → Calls Tryz.prog 12 #[.slice to' ny cap, .int .i64 n, .agg #[.bool s, .slice ao nu1 ca, .slice bo nv1 cb]] w' (BothS ys n to' cap s ao bo nu1 ca nv1 cb w')) := fun w' hb => by rw [hny]; exact Systematic_both ys n to' cap s ao bo nu1 ca nv1 cb 2 q (by omega) w' (by omega) (HRY.out w' hb) (HQ.out w' hb)
  rw [← hnx, ← hnu, ← hnv]
  obtain ⟨nt, hnt⟩ : ∃ n, n = ts.length := ⟨_, rfl⟩
  have HNT := Lib.hid hnt
  rw [← hnt]
  clear hr hu hv ht hl12 hr12 hys hus hvs hq hq0 hnx hny hnu hnv hnu1 hnv1 b1 x1 hbw hnt
  go_enter Tryz.func3, Tryz.ntmps3
  go_wp2_with fail
  rw [← hW1]
  try rw [← hgb]
  clear hW1 hgb
  go_upto_region 1 with fail
  refine wp_region_any (by kernel_rfl) ?_
  refine region_ssa2 [25, 26, 27, 28, 0] (fun w1 => W1.grownBy w1 (some gb)) (fun w1 w2 => w1.grownBy w2 (some gb)) (LsG [fun v _ => v = .slice to' nx cap, fun v _ => v = .slice to' ny cap, fun v _ => v = .agg #[.bool s, .slice ao nu ca, .slice bo nv cb], fun v _ => v = .agg #[.bool s, .slice ao nu1 ca, .slice bo nv1 cb], fun v _ => v = .slice to' ny cap, fun _ _ => True]) (fun D f w1 => (D 4 = false → f 0 = .slice to' nx cap) ∧ (D 5 = false → w1.heap[gb]? = some (.cells #[.bool s, .slice ao nu ca, .slice bo nv cb] 26 (0, 0))) ∧ (D 5 = true → w1.heap[gb]? = some (.cells #[.bool s, .slice ao nu1 ca, .slice bo nv1 cb] 26 (0, 0)))) (fun f => rfl) (by kernel_rfl) (by kernel_rfl) ?_ ?_ ?_ ?_ (AllF.below (n := 6) ?_) ?_
  · exact ⟨rfl, rfl, rfl, Nat.le_refl _, fun _ _ _ => rfl⟩
  · exact ⟨fun _ => rfl, fun _ => X1.out, fun h => by cases h⟩
  · intro jx vx w1 w2 _ h hE; exact LsG.ext (StGL.all (l := [fun v _ => v = .slice to' nx cap, fun v _ => v = .slice to' ny cap, fun v _ => v = .agg #[.bool s, .slice ao nu ca, .slice bo nv cb], fun v _ => v = .agg #[.bool s, .slice ao nu1 ca, .slice bo nv1 cb], fun v _ => v = .slice to' ny cap, fun _ _ => True]) ⟨StG.val _ _, StG.val _ _, StG.val _ _, StG.val _ _, StG.val _ _, StG.triv _, trivial⟩) jx vx w1 w2 h hE
  · intro w1 w2 hB hE; exact gb_trans hB hE
  · refine AllF.step (m := 5) (j := 1) rfl ?_ ?_
    · intro D f w1 hD hB hR hp hcl hX
      have h4 : D 4 = false := noF (hcl 4) (by kernel_rfl) hD
      have e0 : f 0 = .slice to' nx cap := hX.1 h4
      have HX := Lib.hid hX
      have HC := Lib.hid hcl
      have HB := Lib.hid hB
      have HD := Lib.hid hD
      clear hX hcl hB hD hR hp
      refine wpOp_step rfl (fun K hK => ?_)
      simp only [putAll, Act.put, List.setIfInBounds_toArray, List.set_cons_succ, List.set_cons_zero]
      go_simp
      exact hK _ _ ⟨.slice to' nx cap, (by show _ = Act.put _ (some 25) _; simp only [putAll, Act.put, List.setIfInBounds_toArray, List.set_cons_succ, List.set_cons_zero, *]; all_goals rfl), rfl, World.grownBy.refl _ _, HX.out⟩
    refine AllF.step (m := 4) (j := 2) rfl ?_ ?_
    · intro D f w1 hD hB hR hp hcl hX
      have e0 : f 25 = .slice to' nx cap := (hpAt hp 0 (by kernel_rfl)).2
      have HX := Lib.hid hX
      have HC := Lib.hid hcl
      have HB := Lib.hid hB
      have HD := Lib.hid hD
      clear hX hcl hB hD hR hp
      refine wpOp_step rfl (fun K hK => ?_)
      simp only [putAll, Act.put, List.setIfInBounds_toArray, List.set_cons_succ, List.set_cons_zero]
      go_simp
      refine (RW.out w1 HB.out).mono ?_; rintro e w2 ⟨rfl, rfl⟩
      go_simp
      exact hK _ _ ⟨.slice to' ny cap, (by show _ = Act.put _ (some 26) _; simp only [putAll, Act.put, List.setIfInBounds_toArray, List.set_cons_succ, List.set_cons_zero, *]; all_goals rfl), rfl, World.grownBy.refl _ _, HX.out⟩
    refine AllF.step (m := 3) (j := 3) rfl ?_ ?_
    · intro D f w1 hD hB hR hp hcl hX
      have h5 : D 5 = false := noF (hcl 5) (by kernel_rfl) hD
      obtain ⟨k0, k1, k2, _⟩ := at_block (hX.2.1 h5)
      have HX := Lib.hid hX
      have HC := Lib.hid hcl
      have HB := Lib.hid hB
      have HD := Lib.hid hD
      clear hX hcl hB hD hR hp
      refine wpOp_step rfl (fun K hK => ?_)
      simp only [putAll, Act.put, List.setIfInBounds_toArray, List.set_cons_succ, List.set_cons_zero]
      go_simp
      exact hK _ _ ⟨.agg #[.bool s, .slice ao nu ca, .slice bo nv cb], (by show _ = Act.put _ (some 27) _; simp only [putAll, Act.put, List.setIfInBounds_toArray, List.set_cons_succ, List.set_cons_zero, *]; all_goals rfl), rfl, World.grownBy.refl _ _, HX.out⟩
    refine AllF.step (m := 2) (j := 4) rfl ?_ ?_
    · intro D f w1 hD hB hR hp hcl hX
      have e2 : f 27 = .agg #[.bool s, .slice ao nu ca, .slice bo nv cb] := (hpAt hp 2 (by kernel_rfl)).2
      have h5 : D 5 = false := noF (hcl 5) (by kernel_rfl) hD
      have h5' : Hid (upd D 3 5 = false) := h5
      have XB := Lib.hid (hX.2.1 h5)
      clear h5
      have HX := Lib.hid hX
      have HC := Lib.hid hcl
      have HB := Lib.hid hB
      have HD := Lib.hid hD
      clear hX hcl hB hD hR hp
      refine wpOp_step rfl (fun K hK => ?_)
      simp only [putAll, Act.put, List.setIfInBounds_toArray, List.set_cons_succ, List.set_cons_zero]
      go_simp
      refine (SMC.out w1 HB.out).mono ?_; rintro e w2 ⟨rfl, b2⟩
      go_simp
      exact hK _ _ ⟨.agg #[.bool s, .slice ao nu1 ca, .slice bo nv1 cb], (by show _ = Act.put _ (some 28) _; simp only [putAll, Act.put, List.setIfInBounds_toArray, List.set_cons_succ, List.set_cons_zero, *]; all_goals rfl), rfl, C6.below_gb b2 _, ⟨HX.out.1, fun _ => carry XB.out b2, fun h => by rw [h5'.out] at h; cases h⟩⟩
    refine AllF.step (m := 1) (j := 5) rfl ?_ ?_
    · intro D f w1 hD hB hR hp hcl hX
      have e1 : f 26 = .slice to' ny cap := (hpAt hp 1 (by kernel_rfl)).2
      have HX := Lib.hid hX
      have HC := Lib.hid hcl
      have HB := Lib.hid hB
      have HD := Lib.hid hD
      clear hX hcl hB hD hR hp
      refine wpOp_step rfl (fun K hK => ?_)
      simp only [putAll, Act.put, List.setIfInBounds_toArray, List.set_cons_succ, List.set_cons_zero]
      go_simp
      exact hK _ _ ⟨.slice to' ny cap, (by show _ = Act.put _ (some 0) _; simp only [putAll, Act.put, List.setIfInBounds_toArray, List.set_cons_succ, List.set_cons_zero, *]; all_goals rfl), rfl, World.grownBy.refl _ _, ⟨fun h => (by cases h), HX.out.2⟩⟩
    refine AllF.step (m := 0) (j := 6) rfl ?_ ?_
    · intro D f w1 hD hB hR hp hcl hX
      have e3 : f 28 = .agg #[.bool s, .slice ao nu1 ca, .slice bo nv1 cb] := (hpAt hp 3 (by kernel_rfl)).2
      have XB := Lib.hid (hX.2.1 hD)
      obtain ⟨k0, k1, k2, z0, z1, z2⟩ := at_block XB.out
      have HX := Lib.hid hX
      have HC := Lib.hid hcl
      have HB := Lib.hid hB
      have HD := Lib.hid hD
      clear hX hcl hB hD hR hp
      refine wpOp_step rfl (fun K hK => ?_)
      simp only [putAll, Act.put, List.setIfInBounds_toArray, List.set_cons_succ, List.set_cons_zero]
      go_simp
      exact hK _ _ ⟨undef, (by show _ = Act.put _ (none) _; simp only [putAll, Act.put, List.setIfInBounds_toArray, List.set_cons_succ, List.set_cons_zero, *]; all_goals rfl), trivial, gb_trans (gb_trans (gbs _ _ _ _) (gbs _ _ _ _)) (gbs _ _ _ _), ⟨HX.out.1, fun h => (by cases h), fun _ => set3_at XB.out _ _ _⟩⟩
    exact trivial
  · intro D f w2 hall hB hR hX
    have x2 := hX.2.2 (hall 5 (by decide))
    have X2 := Lib.hid x2
    have e0 : f 0 = .slice to' ny cap := hR 4 (by decide)
    have B2 := Lib.hid (HBW.out w2 hB)
    clear hX hR hall hB x2 RW SMC X1 HBW
    simp only [putAll, Act.put, List.setIfInBounds_toArray, List.set_cons_succ, List.set_cons_zero, e0]
    clear e0
    obtain ⟨W3, hW3⟩ : ∃ W, W = w2.alloc (.cells #[.slice lo nt tc, .int .i64 0] 32) := ⟨_, rfl⟩
    obtain ⟨B, hB⟩ : ∃ B, B = w2.heap.size := ⟨_, rfl⟩
    have b3 : Below w2.heap.size w2 W3 := by rw [hW3]; exact below_new _ _
    have T3 : Tap W3 B lo nt tc 0 := by rw [hW3, hB]; exact Tap.new w2 lo nt tc
    have B3 : Hid (Below w.heap.size w W3) := B2.out.trans (b3.mono B2.out.size)
    have htB : 0 < (intz ts).length → ∀ b o, lo = some ⟨b, o, none⟩ → b < B := fun h b o e => by
      have := HT.out.lt h b o e
      have := B2.out.size
      omega
    have MD : Calls Tryz.prog 9 #[.pointer (some ⟨B, 0, none⟩)] W3 (MadePost B lo nt tc 0 W3) := by
      rw [HNT.out] at T3 ⊢
      exact made_v B lo tc ts 0 W3 T3 (HT.out.below B3.out) htB (by omega)
    have MD := Lib.hid MD
    have X3 := Lib.hid (carry X2.out b3)
    have HTB := Lib.hid htB
    have HBB : Hid (w.heap.size ≤ B ∧ gb < B) := ⟨by rw [hB]; exact B2.out.size, by rw [hB]; exact (Array.getElem?_eq_some_iff.1 X2.out).1⟩
    clear b3 T3 X2 htB
    go_wp2_with fail
    rw [← hW3]
    try rw [← hB]
    clear hW3 hB
    go_wp2_with fail
    refine MD.out.mono ?_; rintro e W4 ⟨la, lc, zs, k, rfl, hz1, hz8, _, _, _, hz, g4, j, hj, t4, hlb⟩
    have B4 : Hid (Below w.heap.size w W4) := B3.out.trans (row_gb g4 B3.out.size (fun j e => by cases e; exact HBB.out.1))
    have X4 : Hid (W4.heap[gb]? = some (.cells #[.bool s, .slice ao nu1 ca, .slice bo nv1 cb] 26 (0, 0))) := (g4.block gb (Array.getElem?_eq_some_iff.1 X3.out).1 (fun e => by have := HBB.out.2; have := Option.some.inj e; omega)).trans X3.out
    have T4 := Lib.hid t4
    have NX : Calls Tryz.prog 11 #[.pointer (some ⟨B, 0, none⟩), .int .i64 12] W4 (NextPost W4 B lo nt tc j 12) := by
      rw [HNT.out] at t4 ⊢
      exact Next_v B lo tc ts j 12 W4 t4 (HT.out.below B4.out) (by omega) (by omega) (by omega) 12 rfl
    have NX := Lib.hid NX
    have HZ4 := Lib.hid hz
    have HZB : Hid (0 < (intz zs).length → ∀ b o, la = some ⟨b, o, none⟩ → b < W4.heap.size) := fun h b o e => hz.lt h b o e
    have HLB : Hid (0 < (intz zs).length → ∀ b o, la = some ⟨b, o, none⟩ → b ≠ B) := by unfold Hid; rw [intz_length]; exact hlb
    clear hz g4 t4 hlb MD HTB
    go_wp2_with fail
    refine NX.out.mono ?_; rintro e W5 ⟨r, rfl, hr12, g5, _, _⟩
    have B5 : Hid (Below w.heap.size w W5) := B4.out.trans (row_gb g5 B4.out.size (fun j e => by cases e; exact HBB.out.1))
    have X5 : Hid (W5.heap[gb]? = some (.cells #[.bool s, .slice ao nu1 ca, .slice bo nv1 cb] 26 (0, 0))) := (g5.block gb (Array.getElem?_eq_some_iff.1 X4.out).1 (fun e => by have := HBB.out.2; have := Option.some.inj e; omega)).trans X4.out
    have HZ5 : Hid (RdZ W5 la lc zs) := rdv_gb HZ4.out HLB.out g5
    obtain ⟨q2, hq2⟩ : ∃ q : Rat, q = rq (decide ((r : Int) < 0) != decide ((12 : Int) < 0)) (r : Int).natAbs (12 : Int).natAbs := ⟨_, rfl⟩
    have FQ : Hid (Calls Tryz.prog 10 #[.int .i64 (r : Int), .int .i64 12] W5 (MakesQ q2 2 W5)) := by rw [hq2]; exact mFracS (r : Int) 12 (by omega) (by omega) (by omega) (by omega) W5
    clear hq2 g5 NX X4 HZ4 HZB HLB T4 X3 B3
    go_wp2_with fail
    refine FQ.out.mono ?_; rintro e w6 ⟨s6, a6, n6, c6, o6, m6, d6, rfl, cq6, b6⟩
    obtain ⟨W6, hW6⟩ : ∃ W, W = w6.alloc (.cells #[.bool s6, .slice a6 n6 c6, .slice o6 m6 d6] 26) := ⟨_, rfl⟩
    obtain ⟨g6, hg6⟩ : ∃ g, g = w6.heap.size := ⟨_, rfl⟩
    have n6b : Below w6.heap.size w6 W6 := by rw [hW6]; exact below_new _ _
    have x6 : W6.heap[g6]? = some (.cells #[.bool s6, .slice a6 n6 c6, .slice o6 m6 d6] 26 (0, 0)) := by rw [hW6, hg6]; exact heap_alloc_new _ _
    have b56 : Below W5.heap.size W5 W6 := b6.trans (n6b.mono b6.size)
    have B6 : Hid (Below w.heap.size w W6) := B5.out.trans (b56.mono B5.out.size)
    have y6 := carry X5.out b56
    have HZ6 : RdZ W6 la lc zs := HZ5.out.below b56
    have CQ6 := (cq6.below n6b).rq
    have KB : Hid (∀ w', Below W6.heap.size W6 w' → (w'.cell? ⟨gb, 0, none⟩ = some (.bool s) ∧ w'.cell? ⟨gb, 1, none⟩ = some (.slice ao nu1 ca) ∧ w'.cell? ⟨gb, 2, none⟩ = some (.slice bo nv1 cb)) ∧ w'.cell? ⟨g6, 0, none⟩ = some (.bool s6) ∧ w'.cell? ⟨g6, 1, none⟩ = some (.slice a6 n6 c6) ∧ w'.cell? ⟨g6, 2, none⟩ = some (.slice o6 m6 d6)) := fun w' hb => by
      obtain ⟨k0, k1, k2, _⟩ := at_block (carry y6 hb)
      obtain ⟨l0, l1, l2, _⟩ := at_block (carry x6 hb)
      exact ⟨⟨k0, k1, k2⟩, l0, l1, l2⟩
    have I2 : Hid (∀ w', Below W6.heap.size W6 w' → Calls Tryz.prog 12 #[.slice la zs.length lc, .int .i64 (k : Int), .agg #[.bool s6, .slice a6 n6 c6, .slice o6 m6 d6]] w' (BothS zs (k : Int) la lc s6 a6 o6 n6 c6 m6 d6 w')) := fun w' hb => Systematic_both zs (k : Int) la lc s6 a6 o6 n6 c6 m6 d6 2 q2 (by omega) w' (by omega) (HZ6.below hb) (CQ6.below hb)
    have I3 : Hid (∀ w', Below W6.heap.size W6 w' → Calls Tryz.prog 12 #[.slice la zs.length lc, .int .i64 (k : Int), .agg #[.bool s, .slice ao nu1 ca, .slice bo nv1 cb]] w' (BothS zs (k : Int) la lc s ao bo nu1 ca nv1 cb w')) := fun w' hb => Systematic_both zs (k : Int) la lc s ao bo nu1 ca nv1 cb 2 q (by omega) w' (by omega) (HZ6.below hb) (HQ.out w' (B6.out.trans (hb.mono B6.out.size)))
    have J1 : Hid (∀ w', Below W6.heap.size W6 w' → Calls Tryz.prog 12 #[.slice to' ny cap, .int .i64 n, .agg #[.bool s, .slice ao nu1 ca, .slice bo nv1 cb]] w' (BothS ys n to' cap s ao bo nu1 ca nv1 cb w')) := fun w' hb => I1.out w' (B6.out.trans (hb.mono B6.out.size))
    have BV0 : Hid (Below W6.heap.size W6 W6) := Below.refl _ _
    obtain ⟨⟨k0, k1, k2⟩, l0, l1, l2⟩ := KB.out W6 (Below.refl _ _)
    have NYL := Lib.hid HNY.out.1
    clear cq6 b6 n6b x6 b56 y6 HZ6 CQ6 X5 HZ5 I1 FQ B5 HQ HRY HT HNT HBB HGB HNY
    go_upto_region 5 with fail
    rw [← hW6]
    try rw [← hg6]
    clear hW6 hg6
    go_wp2_with fail
    refine (J1.out _ BV0.out).mono ?_; rintro e V1 ⟨bb, a0x, c0x, L0, E0, z0, rfl, hl0, rd0, R0⟩
    have R0 : ∀ w3, Below W6.heap.size W6 w3 → Calls Tryz.prog 13 #[.slice to' ny cap, .int .i64 n, .agg #[.bool s, .slice ao nu1 ca, .slice bo nv1 cb]] w3 fun e w4 => ∃ a' c', e = .returned (.tuple #[.slice a' L0 c', .int .i64 E0]) ∧ RdZ w4 a' c' z0 ∧ Below w3.heap.size w3 w4 := by rw [NYL.out]; exact R0
    have RC0 := Lib.hid (R0 V1 bb)
    have HL0 := Lib.hid hl0
    have RD0 := Lib.hid rd0
    have BV1 : Hid (Below W6.heap.size W6 V1) := BV0.out.trans (bb.mono BV0.out.size)
    clear bb R0 hl0 rd0 BV0 k0 k1 k2 l0 l1 l2
    obtain ⟨⟨k0, k1, k2⟩, l0, l1, l2⟩ := KB.out V1 BV1.out
    go_wp2_with fail
    refine RC0.out.mono ?_; rintro e V2 ⟨a1x, c1x, rfl, rd1, bb⟩
    have RD1 := Lib.hid rd1
    have RD0' := Lib.hid (RD0.out.below bb)
    clear RD0
    have RD0 := RD0'
    clear RD0'
    have BV2 : Hid (Below W6.heap.size W6 V2) := BV1.out.trans (bb.mono BV1.out.size)
    clear bb rd1 RC0 BV1 k0 k1 k2 l0 l1 l2
    obtain ⟨⟨k0, k1, k2⟩, l0, l1, l2⟩ := KB.out V2 BV2.out
    go_wp2_with fail
    refine (I2.out _ BV2.out).mono ?_; rintro e V3 ⟨bb, a2x, c2x, L2, E2, z2, rfl, hl2, rd2, R2⟩
    have RC2 := Lib.hid (R2 V3 bb)
    have HL2 := Lib.hid hl2
    have RD2 := Lib.hid rd2
    have RD0' := Lib.hid (RD0.out.below bb)
    clear RD0
    have RD0 := RD0'
    clear RD0'
    have RD1' := Lib.hid (RD1.out.below bb)
    clear RD1
    have RD1 := RD1'
    clear RD1'
    have BV3 : Hid (Below W6.heap.size W6 V3) := BV2.out.trans (bb.mono BV2.out.size)
    clear bb R2 hl2 rd2 BV2 k0 k1 k2 l0 l1 l2
    obtain ⟨⟨k0, k1, k2⟩, l0, l1, l2⟩ := KB.out V3 BV3.out
    go_wp2_with fail
    refine RC2.out.mono ?_; rintro e V4 ⟨a3x, c3x, rfl, rd3, bb⟩
    have RD3 := Lib.hid rd3
    have RD0' := Lib.hid (RD0.out.below bb)
    clear RD0
    have RD0 := RD0'
    clear RD0'
    have RD1' := Lib.hid (RD1.out.below bb)
    clear RD1
    have RD1 := RD1'
    clear RD1'
    have RD2' := Lib.hid (RD2.out.below bb)
    clear RD2
    have RD2 := RD2'
    clear RD2'
    have BV4 : Hid (Below W6.heap.size W6 V4) := BV3.out.trans (bb.mono BV3.out.size)
    clear bb rd3 RC2 BV3 k0 k1 k2 l0 l1 l2
    obtain ⟨⟨k0, k1, k2⟩, l0, l1, l2⟩ := KB.out V4 BV4.out
    go_wp2_with fail
    refine (I3.out _ BV4.out).mono ?_; rintro e V5 ⟨bb, a4x, c4x, L4, E4, z4, rfl, hl4, rd4, R4⟩
    have RC4 := Lib.hid (R4 V5 bb)
    have HL4 := Lib.hid hl4
    have RD4 := Lib.hid rd4
    have RD0' := Lib.hid (RD0.out.below bb)
    clear RD0
    have RD0 := RD0'
    clear RD0'
    have RD1' := Lib.hid (RD1.out.below bb)
    clear RD1
    have RD1 := RD1'
    clear RD1'
    have RD2' := Lib.hid (RD2.out.below bb)
    clear RD2
    have RD2 := RD2'
    clear RD2'
    have RD3' := Lib.hid (RD3.out.below bb)
    clear RD3
    have RD3 := RD3'
    clear RD3'
    have BV5 : Hid (Below W6.heap.size W6 V5) := BV4.out.trans (bb.mono BV4.out.size)
    clear bb R4 hl4 rd4 BV4 k0 k1 k2 l0 l1 l2
    obtain ⟨⟨k0, k1, k2⟩, l0, l1, l2⟩ := KB.out V5 BV5.out
    go_wp2_with fail
    refine RC4.out.mono ?_; rintro e V6 ⟨a5x, c5x, rfl, rd5, bb⟩
    have RD5 := Lib.hid rd5
    have RD0' := Lib.hid (RD0.out.below bb)
    clear RD0
    have RD0 := RD0'
    clear RD0'
    have RD1' := Lib.hid (RD1.out.below bb)
    clear RD1
    have RD1 := RD1'
    clear RD1'
    have RD2' := Lib.hid (RD2.out.below bb)
    clear RD2
    have RD2 := RD2'
    clear RD2'
    have RD3' := Lib.hid (RD3.out.below bb)
    clear RD3
    have RD3 := RD3'
    clear RD3'
    have RD4' := Lib.hid (RD4.out.below bb)
    clear RD4
    have RD4 := RD4'
    clear RD4'
    have BV6 : Hid (Below W6.heap.size W6 V6) := BV5.out.trans (bb.mono BV5.out.size)
    clear bb rd5 RC4 BV5 k0 k1 k2 l0 l1 l2
    obtain ⟨⟨k0, k1, k2⟩, l0, l1, l2⟩ := KB.out V6 BV6.out
    clear J1 I2 I3 k0 k1 k2 l0 l1 l2 KB
    go_wp2_with fail
    refine (Same_l HL0.out RD0.out RD1.out).mono ?_; rintro e V7 ⟨rfl, bb⟩
    have RD2' := Lib.hid (RD2.out.below bb)
    clear RD2
    have RD2 := RD2'
    clear RD2'
    have RD3' := Lib.hid (RD3.out.below bb)
    clear RD3
    have RD3 := RD3'
    clear RD3'
    have RD4' := Lib.hid (RD4.out.below bb)
    clear RD4
    have RD4 := RD4'
    clear RD4'
    have RD5' := Lib.hid (RD5.out.below bb)
    clear RD5
    have RD5 := RD5'
    clear RD5'
    have BV7 : Hid (Below W6.heap.size W6 V7) := BV6.out.trans (bb.mono BV6.out.size)
    clear bb BV6 RD0 RD1 HL0
    go_wp2_with fail
    refine (Same_l HL2.out RD2.out RD3.out).mono ?_; rintro e V8 ⟨rfl, bb⟩
    have RD4' := Lib.hid (RD4.out.below bb)
    clear RD4
    have RD4 := RD4'
    clear RD4'
    have RD5' := Lib.hid (RD5.out.below bb)
    clear RD5
    have RD5 := RD5'
    clear RD5'
    have BV8 : Hid (Below W6.heap.size W6 V8) := BV7.out.trans (bb.mono BV7.out.size)
    clear bb BV7 RD2 RD3 HL2
    go_wp2_with fail
    refine (Same_l HL4.out RD4.out RD5.out).mono ?_; rintro e V9 ⟨rfl, bb⟩
    have BV9 : Hid (Below W6.heap.size W6 V9) := BV8.out.trans (bb.mono BV8.out.size)
    clear bb BV8 RD4 RD5 HL4
    go_wp2_with fail
    refine (awake10 _).mono ?_; rintro e V10 ⟨rfl, bb⟩
    have HW := Lib.hid (B6.out.trans ((BV9.out.trans (bb.mono BV9.out.size)).mono B6.out.size))
    clear bb
    go_wp2_with fail
    go_ret
    exact ⟨rfl, HW.out⟩
end Go.Proofs.YtjgofoekocdecaaGreat.Dr
