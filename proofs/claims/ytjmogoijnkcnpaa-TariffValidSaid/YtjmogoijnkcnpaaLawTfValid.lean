import Derived.Test.YtjmogoijnkcnpaaTfQ0
/- TariffValid for all inputs: Validate of the code against the reference's. -/
namespace Go.Proofs.Ytjmogoijnkcnpaa.T14
open Go.RowKit Go.Sort C6

set_option maxHeartbeats 16000000 in
set_option maxRecDepth 100000 in
theorem TariffValid_any (st : Int) (ao0 : Option Addr) (cap0 : Nat) (bs : List (Int × Int)) (ao1 : Option Addr) (ts : List Int) (cap1 : Nat) (w : World) (hr : RdK w ao0 cap0 bs) (ht : RdZ w ao1 cap1 ts) :
    Calls Try.prog 3 #[.agg #[.int .i64 st, .slice ao0 bs.length cap0], .slice ao1 ts.length cap1] w fun e w' => e = .returned (.bool true) ∧ Below w.heap.size w w' := by
  obtain ⟨n0, hn0⟩ : ∃ n, n = bs.length := ⟨_, rfl⟩
  obtain ⟨tn, htn⟩ : ∃ n, n = ts.length := ⟨_, rfl⟩
  obtain ⟨W1, hW1⟩ : ∃ W, W = w.alloc (.cells #[.int .i64 st, .slice ao0 n0 cap0] 24) := ⟨_, rfl⟩
  obtain ⟨W2, hW2⟩ : ∃ W, W = W1.alloc (.cells #[.slice ao1 tn cap1, .int .i64 0] 29) := ⟨_, rfl⟩
  obtain ⟨g0, hg0⟩ : ∃ g, g = w.heap.size := ⟨_, rfl⟩
  have s1 : W1.heap.size = g0 + 1 := by rw [hW1, hg0]; simp
  have s2 : W2.heap.size = g0 + 1 + 1 := by rw [hW2]; simp [s1]
  have b1 : Below w.heap.size w W1 := by rw [hW1]; exact below_new w _
  have b2 : Below W1.heap.size W1 W2 := by rw [hW2]; exact below_new W1 _
  have x1 : TfBox W1 g0 st ao0 n0 cap0 := by rw [hW1, hg0]; exact TfBox.new w _ _ _ _
  have x2 : TfBox W2 g0 st ao0 n0 cap0 := x1.below b2 x1.lt
  have t2 : Tap W2 (g0 + 1) ao1 ts.length cap1 0 := by rw [hW2, ← s1, ← htn]; exact Tap.new W1 _ _ _
  have B2 : Below w.heap.size w W2 := b1.trans (b2.mono b1.size)
  have r2 : RdK W2 ao0 cap0 bs := hr.below B2
  have z2 : RdZ W2 ao1 cap1 ts := ht.below B2
  have SPO : Hid (Calls Try.prog 10 #[.pointer (some ⟨g0 + 1, 0, none⟩)] W2 (SpPost W2 (g0 + 1) ao1 tn cap1 0)) := by
    rw [htn]
    exact spoiled_v (g0 + 1) ao1 cap1 ts 0 W2 t2 z2 (fun h0 b o e => by have := rdz_lt ht h0 b o e; omega) (by omega)
  have HB2 := Lib.hid B2
  have X2 := Lib.hid x2
  have S2 := Lib.hid s2
  have R2 := Lib.hid r2
  have L0 : Hid (offB ao0 bs (fun b => b < g0)) := fun h0 b o e => by have := hr.lt h0 b o e; omega
  have HN0 := Lib.hid hn0
  have HG0 := Lib.hid hg0
  have HU : Hid (W2 = (w.alloc (.cells #[.int .i64 st, .slice ao0 n0 cap0] 24)).alloc (.cells #[.slice ao1 tn cap1, .int .i64 0] 29)) := by unfold Hid; rw [hW2, hW1]
  rw [← hn0, ← htn]
  clear hn0 htn hr ht s1 s2 b1 b2 x1 x2 t2 B2 r2 z2 hW1 hW2 hg0
  go_enter Try.func3, Try.ntmps3
  go_wp2_with fail
  rw [← HU.out]
  rw [← HG0.out]
  clear HU
  refine (SPO.out).mono ?_
  rintro e w3 ⟨sy, ay, cy, bsy, j3, rfl, own3, hly, g3, -, t3⟩
  obtain ⟨ny, hny⟩ : ∃ n, n = bsy.length := ⟨_, rfl⟩
  rw [← hny] at own3 hly ⊢
  obtain ⟨ry, -, oy⟩ := rd_of_own own3
  obtain ⟨W4, hW4⟩ : ∃ W, W = w3.alloc (.cells #[.int .i64 sy, .slice ay ny cy] 24) := ⟨_, rfl⟩
  obtain ⟨gy, hgy⟩ : ∃ g, g = w3.heap.size := ⟨_, rfl⟩
  have b4 : Below w3.heap.size w3 W4 := by rw [hW4]; exact below_new w3 _
  have y4 : TfBox W4 gy sy ay ny cy := by rw [hW4, hgy]; exact TfBox.new w3 _ _ _ _
  have TY4 : TB W4 gy sy ay ny cy bsy := ⟨y4, ry.below b4, hny.symm, hly⟩
  have x3 : TfBox w3 g0 st ao0 n0 cap0 := X2.out.grown g3 (fun e => by have := Option.some.inj e; omega)
  have x4 : TfBox W4 g0 st ao0 n0 cap0 := x3.below b4 x3.lt
  have r4 : RdK W4 ao0 cap0 bs := (R2.out.gbne (fun h0 b o e => by have := L0.out h0 b o e; omega) g3).below b4
  have B3 : Below w.heap.size w w3 := HB2.out.grown g3 HB2.out.size (fun r e => by have := Option.some.inj e; have := HG0.out; omega)
  have B4 : Below w.heap.size w W4 := B3.trans (b4.mono B3.size)
  have hgy0 : g0 + 1 < gy := by have := g3.size; have := S2.out; omega
  have RW : Hid (Calls Try.prog 11 #[.agg #[.int .i64 st, .slice ao0 n0 cap0]] W4 (RwPost st (bs.take 10) W4)) := by
    have := raw_v st ao0 cap0 bs W4 r4
    rwa [← HN0.out] at this
  have HTY4 := Lib.hid TY4
  have HX4 := Lib.hid x4
  have HB4 := Lib.hid B4
  have HOY : Hid (offB ay bsy (fun b => g0 + 1 < b)) := fun h0 b o e => by have := oy h0 b o e; have := S2.out; show g0 + 1 < b; omega
  have HGY := Lib.hid hgy0
  have HV := Lib.hid hW4
  have HVG := Lib.hid hgy
  obtain ⟨k0, k1⟩ := x4.cells
  rw [hW4] at k0 k1
  clear own3 hny hly g3 t3 ry oy b4 y4 TY4 x3 x4 r4 B3 B4 hgy0 hW4 hgy SPO HB2 X2 S2 R2
  go_upto_region 2 with fail
  rw [← HV.out] at k0 k1 ⊢
  try rw [← HVG.out]
  clear HV HVG
  go_wp2_with fail
  refine (RW.out).mono ?_
  rintro e w5 ⟨a5, c5, rfl, own5, b5⟩
  obtain ⟨n5, hn5⟩ : ∃ n, n = (bs.take 10).length := ⟨_, rfl⟩
  rw [← hn5] at own5 ⊢
  obtain ⟨r5, -, o5⟩ := rd_of_own own5
  have x5 := HX4.out.below b5 HX4.out.lt
  have ty5 := HTY4.out.below b5
  obtain ⟨W6, hW6⟩ : ∃ W, W = (w5.setCell ⟨g0, 0, none⟩ (.int .i64 st)).setCell ⟨g0, 1, none⟩ (.slice a5 n5 c5) := ⟨_, rfl⟩
  have g6 : w5.grownBy W6 (some g0) := by rw [hW6]; exact gb_trans (gb_set w5 g0 0 _) (gb_set _ g0 1 _)
  have x6 : TfBox W6 g0 st a5 n5 c5 := by rw [hW6]; exact x5.put2 _ _ _ _
  have TX6 : Hid (TB W6 g0 st a5 n5 c5 (bs.take 10)) := ⟨x6, r5.grown (fun h0 b o e e2 => by have := o5 h0 b o e; have := Option.some.inj e2; have := HX4.out.lt; omega) g6, hn5.symm, by rw [hn5, List.length_take]; omega⟩
  have TY6 : Hid (TB W6 gy sy ay ny cy bsy) := ty5.grown g6 (fun e => by have := Option.some.inj e; have := HGY.out; omega) (fun h0 b o e e2 => by have := HOY.out h0 b o e; have := Option.some.inj e2; omega)
  have B6 : Hid (Below w.heap.size w W6) := (HB4.out.trans (b5.mono HB4.out.size)).grown g6 (by have := HB4.out.size; have := b5.size; omega) (fun r e => by have := Option.some.inj e; have := HG0.out; omega)
  obtain ⟨p0, p1⟩ := x5.cells
  have pf0 := x5.fz 0
  have pf1 := x5.fz 1
  have HV := Lib.hid hW6
  clear own5 hn5 b5 r5 o5 x5 ty5 g6 x6 hW6 k0 k1 RW HX4 HTY4 HB4 HOY
  go_wp2_with fail
  rw [← HV.out]
  clear HV p0 p1 pf0 pf1
  obtain ⟨ex, hex⟩ : ∃ ex, ex = tE st (bs.take 10) := ⟨_, rfl⟩
  obtain ⟨ey, hey⟩ : ∃ ey, ey = tE sy bsy := ⟨_, rfl⟩
  have VX : Hid (∀ w', Below W6.heap.size W6 w' → Calls Try.prog 12 #[.agg #[.int .i64 st, .slice a5 n5 c5]] w' (ErrIs ex w')) := fun w' hb => by rw [hex]; exact (TX6.out.below hb).valid
  have RX : Hid (∀ w', Below W6.heap.size W6 w' → Calls Try.prog 13 #[.agg #[.int .i64 st, .slice a5 n5 c5]] w' (ErrIs ex w')) := fun w' hb => by rw [hex]; exact (TX6.out.below hb).rvalid
  have VY : Hid (∀ w', Below W6.heap.size W6 w' → Calls Try.prog 12 #[.agg #[.int .i64 sy, .slice ay ny cy]] w' (ErrIs ey w')) := fun w' hb => by rw [hey]; exact (TY6.out.below hb).valid
  have RY : Hid (∀ w', Below W6.heap.size W6 w' → Calls Try.prog 13 #[.agg #[.int .i64 sy, .slice ay ny cy]] w' (ErrIs ey w')) := fun w' hb => by rw [hey]; exact (TY6.out.below hb).rvalid
  clear hex hey
  refine wp_region_held_drew (S := fun w' => Below W6.heap.size W6 w') (by kernel_rfl) ((Below.refl _ _).drew) (fun hH => ?_)
  refine wpAnyH_take (i := 0) (v := (.agg #[.int .i64 st, .slice a5 n5 c5])) rfl (by kernel_rfl) (by kernel_rfl) (by kernel_rfl) (fun _ _ _ h => h) (Or.inl ⟨by kernel_rfl, ?_⟩) hH ?_
  · intro w1 hB
    obtain ⟨k0, k1⟩ := (TX6.out.below hB).box.cells
    obtain ⟨j0, j1⟩ := (TY6.out.below hB).box.cells
    go_simp
  change wpAnyH _ _ _ _ _ _ _ (Act.put _ (some 12) _) _
  try simp only [Act.put, List.setIfInBounds_toArray, List.set_cons_zero, List.set_cons_succ]
  refine wpAnyH_take (i := 2) (v := (.agg #[.int .i64 st, .slice a5 n5 c5])) rfl (by kernel_rfl) (by kernel_rfl) (by kernel_rfl) (fun _ _ _ h => h) (Or.inl ⟨by kernel_rfl, ?_⟩) hH ?_
  · intro w1 hB
    obtain ⟨k0, k1⟩ := (TX6.out.below hB).box.cells
    obtain ⟨j0, j1⟩ := (TY6.out.below hB).box.cells
    go_simp
  change wpAnyH _ _ _ _ _ _ _ (Act.put _ (some 14) _) _
  try simp only [Act.put, List.setIfInBounds_toArray, List.set_cons_zero, List.set_cons_succ]
  refine wpAnyH_ready (rs := [1]) (by kernel_rfl) (by simp) ?_
  refine AllReadyH.cons rfl (fun K hK => ?_) AllReadyH.nil
  go_simp
  refine (VX.out _ hH).mono ?_
  rintro e V1 ⟨rfl, v1⟩
  try go_simp
  refine hK.out _ _ (keepB v1 hH (Nat.le_refl _)) (fun hH1 => ?_)
  clear hK K
  try simp only [Act.put, List.setIfInBounds_toArray, List.set_cons_zero, List.set_cons_succ]
  refine wpAnyH_ready (rs := [3]) (by kernel_rfl) (by simp) ?_
  refine AllReadyH.cons rfl (fun K hK => ?_) AllReadyH.nil
  go_simp
  refine (RX.out _ hH1).mono ?_
  rintro e V3 ⟨rfl, v3⟩
  try go_simp
  refine hK.out _ _ (keepB v3 hH1 (Nat.le_refl _)) (fun hH3 => ?_)
  clear hK K
  try simp only [Act.put, List.setIfInBounds_toArray, List.set_cons_zero, List.set_cons_succ]
  refine wpAnyH_take (i := 4) (v := (.bool true)) rfl (by kernel_rfl) (by kernel_rfl) (by kernel_rfl) (fun _ _ _ h => h) (Or.inl ⟨by kernel_rfl, ?_⟩) hH3 ?_
  · intro w1 hB
    go_simp
  change wpAnyH _ _ _ _ _ _ _ (Act.put _ (some 16) _) _
  try simp only [Act.put, List.setIfInBounds_toArray, List.set_cons_zero, List.set_cons_succ]
  refine wpAnyH_take (i := 5) (v := (.bool true)) rfl (by kernel_rfl) (by kernel_rfl) (by kernel_rfl) (fun _ _ _ h => h) (Or.inl ⟨by kernel_rfl, ?_⟩) hH3 ?_
  · intro w1 hB
    go_simp
  change wpAnyH _ _ _ _ _ _ _ (Act.put _ (some 17) _) _
  try simp only [Act.put, List.setIfInBounds_toArray, List.set_cons_zero, List.set_cons_succ]
  refine wpAnyH_take (i := 6) (v := (.agg #[.int .i64 sy, .slice ay ny cy])) rfl (by kernel_rfl) (by kernel_rfl) (by kernel_rfl) (fun _ _ _ h => h) (Or.inl ⟨by kernel_rfl, ?_⟩) hH3 ?_
  · intro w1 hB
    obtain ⟨k0, k1⟩ := (TX6.out.below hB).box.cells
    obtain ⟨j0, j1⟩ := (TY6.out.below hB).box.cells
    go_simp
  change wpAnyH _ _ _ _ _ _ _ (Act.put _ (some 18) _) _
  try simp only [Act.put, List.setIfInBounds_toArray, List.set_cons_zero, List.set_cons_succ]
  refine wpAnyH_take (i := 8) (v := (.agg #[.int .i64 sy, .slice ay ny cy])) rfl (by kernel_rfl) (by kernel_rfl) (by kernel_rfl) (fun _ _ _ h => h) (Or.inl ⟨by kernel_rfl, ?_⟩) hH3 ?_
  · intro w1 hB
    obtain ⟨k0, k1⟩ := (TX6.out.below hB).box.cells
    obtain ⟨j0, j1⟩ := (TY6.out.below hB).box.cells
    go_simp
  change wpAnyH _ _ _ _ _ _ _ (Act.put _ (some 20) _) _
  try simp only [Act.put, List.setIfInBounds_toArray, List.set_cons_zero, List.set_cons_succ]
  refine wpAnyH_ready (rs := [7]) (by kernel_rfl) (by simp) ?_
  refine AllReadyH.cons rfl (fun K hK => ?_) AllReadyH.nil
  go_simp
  refine (VY.out _ hH3).mono ?_
  rintro e V7 ⟨rfl, v7⟩
  try go_simp
  refine hK.out _ _ (keepB v7 hH3 (Nat.le_refl _)) (fun hH7 => ?_)
  clear hK K
  try simp only [Act.put, List.setIfInBounds_toArray, List.set_cons_zero, List.set_cons_succ]
  refine wpAnyH_ready (rs := [9]) (by kernel_rfl) (by simp) ?_
  refine AllReadyH.cons rfl (fun K hK => ?_) AllReadyH.nil
  go_simp
  refine (RY.out _ hH7).mono ?_
  rintro e V9 ⟨rfl, v9⟩
  try go_simp
  refine hK.out _ _ (keepB v9 hH7 (Nat.le_refl _)) (fun hH9 => ?_)
  clear hK K
  try simp only [Act.put, List.setIfInBounds_toArray, List.set_cons_zero, List.set_cons_succ]
  refine wpAnyH_take (i := 10) (v := (.bool true)) rfl (by kernel_rfl) (by kernel_rfl) (by kernel_rfl) (fun _ _ _ h => h) (Or.inl ⟨by kernel_rfl, ?_⟩) hH9 ?_
  · intro w1 hB
    go_simp
  change wpAnyH _ _ _ _ _ _ _ (Act.put _ (some 22) _) _
  try simp only [Act.put, List.setIfInBounds_toArray, List.set_cons_zero, List.set_cons_succ]
  refine wpAnyH_take (i := 11) (v := (.bool true)) rfl (by kernel_rfl) (by kernel_rfl) (by kernel_rfl) (fun _ _ _ h => h) (Or.inl ⟨by kernel_rfl, ?_⟩) hH9 ?_
  · intro w1 hB
    go_simp
  change wpAnyH _ _ _ _ _ _ _ (Act.put _ (some 23) _) _
  try simp only [Act.put, List.setIfInBounds_toArray, List.set_cons_zero, List.set_cons_succ]
  refine wpAnyH_take (i := 12) (v := (.bool true)) rfl (by kernel_rfl) (by kernel_rfl) (by kernel_rfl) (fun _ _ _ h => h) (Or.inl ⟨by kernel_rfl, ?_⟩) hH9 ?_
  · intro w1 hB
    go_simp
  change wpAnyH _ _ _ _ _ _ _ (Act.put _ (some 24) _) _
  try simp only [Act.put, List.setIfInBounds_toArray, List.set_cons_zero, List.set_cons_succ]
  refine wpAnyH_ready (rs := [13]) (by kernel_rfl) (by simp) ?_
  refine AllReadyH.cons rfl (fun K hK => ?_) AllReadyH.nil
  go_simp
  refine (awake_v _).mono ?_
  rintro e V13 ⟨rfl, v13⟩
  try go_simp
  refine hK.out _ _ (keepB v13 hH9 (Nat.le_refl _)) (fun hH13 => ?_)
  clear hK K
  try simp only [Act.put, List.setIfInBounds_toArray, List.set_cons_zero, List.set_cons_succ]
  refine wpAnyH_take (i := 14) (v := (.bool true)) rfl (by kernel_rfl) (by kernel_rfl) (by kernel_rfl) (fun _ _ _ h => h) (Or.inl ⟨by kernel_rfl, ?_⟩) hH13 ?_
  · intro w1 hB
    go_simp
  change wpAnyH _ _ _ _ _ _ _ (Act.put _ (some 26) _) _
  try simp only [Act.put, List.setIfInBounds_toArray, List.set_cons_zero, List.set_cons_succ]
  refine wpAnyH_take (i := 15) (v := (.bool true)) rfl (by kernel_rfl) (by kernel_rfl) (by kernel_rfl) (fun _ _ _ h => h) (Or.inl ⟨by kernel_rfl, ?_⟩) hH13 ?_
  · intro w1 hB
    go_simp
  change wpAnyH _ _ _ _ _ _ _ (Act.put _ (some 4) _) _
  try simp only [Act.put, List.setIfInBounds_toArray, List.set_cons_zero, List.set_cons_succ]
  refine wpAnyH_done (by kernel_rfl) ?_ _
  go_wp2_with fail
  go_ret
  exact ⟨rfl, B6.out.trans (Below.mono hH13 B6.out.size)⟩
end Go.Proofs.Ytjmogoijnkcnpaa.T14
