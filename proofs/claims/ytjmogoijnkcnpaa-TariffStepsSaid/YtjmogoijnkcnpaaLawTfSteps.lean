import Derived.Test.YtjmogoijnkcnpaaTfQ0
import Derived.Test.YtjmogoijnkcnpaaFold6
import Derived.Test.YtjmogoijnkcnpaaRatsD
/- TariffSteps for all inputs: the bill of nothing is the standing charge, and each further unit costs its marginal price. -/
namespace Go.Proofs.Ytjmogoijnkcnpaa.T14
open Go.RowKit Go.Sort C6

theorem rSub_z {u v : Value} {x y : Int} {w : World} (hu : ZV u w x) (hv : ZV v w y) (hz : (x - y).natAbs < pw 5) : Calls Try.prog 24 #[u, v] w (Mk ((x - y : Int) : Rat) 5 w) := by
  obtain ⟨s, ao, n, ca, bo, m, cb, rfl, h1⟩ := hu
  obtain ⟨t, po, l, cl, qo, j, cj, rfl, h2⟩ := hv
  exact (rSub_q _ _ _ _ _ _ _ _ _ _ _ _ _ _ 5 _ _ w h1.rq h2.rq (by omega)).mono fun e w' h => fits (by rwa [← Rat.intCast_sub] at h) hz
theorem mrg_mag {bs : List (Int × Int)} (h : OkB bs) (a : Int) : 0 ≤ mrg a bs ∧ mrg a bs ≤ 1099511627776 := by
  have key : ∀ l : List (Int × Int), (∀ x ∈ l, 0 ≤ x.2 ∧ x.2 ≤ 1099511627776) → 0 ≤ mrg a l ∧ mrg a l ≤ 1099511627776 := by
    intro l
    induction l with
    | nil => intro _; exact ⟨by simp [mrg], by simp [mrg]⟩
    | cons x l ih =>
      intro hl
      show 0 ≤ (if x.1 = 0 ∨ a < x.1 then x.2 else mrg a l) ∧ (if x.1 = 0 ∨ a < x.1 then x.2 else mrg a l) ≤ _
      split
      · exact hl x (by simp)
      · exact ih (fun y hy => hl y (by simp [hy]))
  refine key bs (fun x hx => ?_)
  obtain ⟨i, hi, rfl⟩ := List.mem_iff_getElem.1 hx
  have := h.price i hi
  unfold prc at this
  simpa [List.getD, hi] using this

set_option maxHeartbeats 16000000 in
set_option maxRecDepth 100000 in
theorem TariffSteps_any (nn : Int) (ao1 : Option Addr) (ts : List Int) (cap1 : Nat) (w : World) (ht : RdZ w ao1 cap1 ts) :
    Calls Try.prog 5 #[.int .i64 nn, .slice ao1 ts.length cap1] w fun e w' => e = .returned (.bool true) ∧ Below w.heap.size w w' := by
  obtain ⟨tn, htn⟩ : ∃ n, n = ts.length := ⟨_, rfl⟩
  obtain ⟨W1, hW1⟩ : ∃ W, W = w.alloc (.cells #[.slice ao1 tn cap1, .int .i64 0] 29) := ⟨_, rfl⟩
  obtain ⟨B, hB⟩ : ∃ g, g = w.heap.size := ⟨_, rfl⟩
  have s1 : W1.heap.size = B + 1 := by rw [hW1, hB]; simp
  have b1 : Below w.heap.size w W1 := by rw [hW1]; exact below_new w _
  have t1 : Tap W1 B ao1 ts.length cap1 0 := by rw [hW1, hB, ← htn]; exact Tap.new w _ _ _
  have z1 : RdZ W1 ao1 cap1 ts := ht.below b1
  have TF : Hid (Calls Try.prog 21 #[.pointer (some ⟨B, 0, none⟩)] W1 (TfPost W1 B ao1 tn cap1 0)) := by
    rw [htn]
    exact Tariff_v B ao1 cap1 ts 0 W1 t1 z1 (fun h0 b o e => by have := rdz_lt ht h0 b o e; omega) (by omega)
  have HB1 := Lib.hid b1
  have HBB := Lib.hid hB
  have S1 := Lib.hid s1
  rw [← htn]
  clear htn ht s1 b1 t1 z1 hB
  go_enter Try.func5, Try.ntmps5
  go_wp2_with fail
  rw [← hW1]
  try rw [← HBB.out]
  clear hW1
  refine (TF.out).mono ?_
  rintro e w3 ⟨st, b, c, bs, j3, rfl, own3, hst0, hst1, hok, hsm, g3, -, -⟩
  obtain ⟨n, hn⟩ : ∃ n, n = bs.length := ⟨_, rfl⟩
  rw [← hn] at own3 ⊢
  obtain ⟨ry, -, -⟩ := rd_of_own own3
  obtain ⟨W6, hW6⟩ : ∃ W, W = w3.alloc (.cells #[.int .i64 st, .slice (some ⟨b, 0, none⟩) n c] 24) := ⟨_, rfl⟩
  obtain ⟨gy, hgy⟩ : ∃ g, g = w3.heap.size := ⟨_, rfl⟩
  have b4 : Below w3.heap.size w3 W6 := by rw [hW6]; exact below_new w3 _
  have y4 : TfBox W6 gy st (some ⟨b, 0, none⟩) n c := by rw [hW6, hgy]; exact TfBox.new w3 _ _ _ _
  have TX6 : Hid (TB W6 gy st (some ⟨b, 0, none⟩) n c bs) := ⟨y4, ry.below b4, hn.symm, by have := hsm.1; omega⟩
  have B3 : Below w.heap.size w w3 := HB1.out.grown g3 HB1.out.size (fun r e => by have := Option.some.inj e; have := HBB.out; omega)
  have B6 : Hid (Below w.heap.size w W6) := B3.trans (b4.mono B3.size)
  have HOK : Hid (OkB bs) := hok
  have HST : Hid (0 ≤ st ∧ st ≤ 1099511627776) := ⟨hst0, by omega⟩
  have HV := Lib.hid hW6
  have HVG := Lib.hid hgy
  clear own3 hst0 hst1 hok hsm g3 hn ry b4 y4 B3 hW6 hgy TF HB1 S1
  go_upto_region 2 with fail
  rw [← HV.out]
  try rw [← HVG.out]
  clear HV HVG
  go_wp2_with fail
  refine (Fold_v nn 300 (by omega) (by omega) W6 _ rfl).mono ?_
  rintro e wf ⟨k, rfl, hk, rfl⟩
  have HAE : ∀ a : Int, 0 ≤ a → a ≤ 1099511627776 → aE st bs a = 0 ∧ bilQ st bs a = bil st bs a ∧ mrgQ st bs a = mrg a bs := fun a h0 h1 => by
    have h := aE_zero (tE_zero HST.out.1 HST.out.2 HOK.out) h0 h1
    exact ⟨h, if_pos h, if_pos h⟩
  obtain ⟨z0, hz0⟩ : ∃ z, z = bil st bs 0 := ⟨_, rfl⟩
  obtain ⟨z1, hz1⟩ : ∃ z, z = bil st bs (k : Int) := ⟨_, rfl⟩
  obtain ⟨z2, hz2⟩ : ∃ z, z = bil st bs ((k : Int) + 1) := ⟨_, rfl⟩
  obtain ⟨mg, hmg⟩ : ∃ z, z = mrg (k : Int) bs := ⟨_, rfl⟩
  have BC0 : Hid (∀ w', Below W6.heap.size W6 w' → Calls Try.prog 16 #[.agg #[.int .i64 st, .slice (some ⟨b, 0, none⟩) n c], .int .i64 0] w' (MkE 0 ((z0 : Int) : Rat) 5 w')) := fun w' hb => by
    have h := (TX6.out.below hb).bill 0
    rw [(HAE 0 (by omega) (by omega)).1, (HAE 0 (by omega) (by omega)).2.1] at h
    rw [hz0]; exact h
  have BC1 : Hid (∀ w', Below W6.heap.size W6 w' → Calls Try.prog 16 #[.agg #[.int .i64 st, .slice (some ⟨b, 0, none⟩) n c], .int .i64 (k : Int)] w' (MkE 0 ((z1 : Int) : Rat) 5 w')) := fun w' hb => by
    have h := (TX6.out.below hb).bill (k : Int)
    rw [(HAE k (by omega) (by omega)).1, (HAE k (by omega) (by omega)).2.1] at h
    rw [hz1]; exact h
  have BC2 : Hid (∀ w', Below W6.heap.size W6 w' → Calls Try.prog 16 #[.agg #[.int .i64 st, .slice (some ⟨b, 0, none⟩) n c], .int .i64 ((k : Int) + 1)] w' (MkE 0 ((z2 : Int) : Rat) 5 w')) := fun w' hb => by
    have h := (TX6.out.below hb).bill ((k : Int) + 1)
    rw [(HAE (k + 1) (by omega) (by omega)).1, (HAE (k + 1) (by omega) (by omega)).2.1] at h
    rw [hz2]; exact h
  have MC : Hid (∀ w', Below W6.heap.size W6 w' → Calls Try.prog 18 #[.agg #[.int .i64 st, .slice (some ⟨b, 0, none⟩) n c], .int .i64 (k : Int)] w' (ZE 0 mg w')) := fun w' hb => by
    have h := (TX6.out.below hb).marginal (k : Int)
    rw [(HAE k (by omega) (by omega)).1, (HAE k (by omega) (by omega)).2.2] at h
    rw [hmg]; exact h
  have HZ0 : Hid (z0 = st) := by unfold Hid; rw [hz0]; exact HOK.out.none
  have HDF : Hid (z2 - z1 = mg) := by unfold Hid; rw [hz2, hz1, hmg]; exact HOK.out.next (by omega)
  have HMG : Hid (0 ≤ mg ∧ mg ≤ 1099511627776) := by unfold Hid; rw [hmg]; exact mrg_mag HOK.out _
  have HKK := Lib.hid hk
  clear HAE hz0 hz1 hz2 hmg
  have RB6 : Hid (Below W6.heap.size W6 W6) := Below.refl _ _
  obtain ⟨k0, k1⟩ := (TX6.out.below RB6.out).box.cells
  go_wp2_with fail
  refine (BC0.out _ RB6.out).mono ?_
  rintro e u3 ⟨v3, rfl, ⟨s3, a3, n3, c3, o3, m3, d3, rfl, q3⟩, h3⟩
  obtain ⟨U3, hU3⟩ : ∃ W, W = u3.alloc (.cells #[.bool s3, .slice a3 n3 c3, .slice o3 m3 d3] 39) := ⟨_, rfl⟩
  obtain ⟨g3, hg3⟩ : ∃ g, g = u3.heap.size := ⟨_, rfl⟩
  have x3 : U3.heap[g3]? = some (.cells #[.bool s3, .slice a3 n3 c3, .slice o3 m3 d3] 39 (0, 0)) := by rw [hU3, hg3]; exact heap_alloc_new _ _
  have e3 : Below u3.heap.size u3 U3 := by rw [hU3]; exact below_new u3 _
  have f3 : Below W6.heap.size W6 U3 := h3.trans (e3.mono h3.size)
  have BB3 : Hid (Below W6.heap.size W6 U3) := Below.trans RB6.out (f3.mono (Below.size RB6.out))
  have XX3 := Lib.hid x3
  have QQ3 : Hid (IsQ ((z0 : Int) : Rat) 5 (.agg #[.bool s3, .slice a3 n3 c3, .slice o3 m3 d3]) U3) := ⟨_, _, _, _, _, _, _, rfl, q3.below e3⟩
  clear k0 k1
  obtain ⟨k0, k1⟩ := (TX6.out.below BB3.out).box.cells
  rw [hU3] at k0 k1
  have HU3 := Lib.hid hU3
  have HG3 := Lib.hid hg3
  clear x3 e3 f3 h3 q3 hU3 hg3
  go_upto_region 4 with fail
  rw [← HU3.out] at k0 k1 ⊢
  try rw [← HG3.out]
  clear HU3 HG3
  go_wp2_with fail
  refine (BC1.out _ BB3.out).mono ?_
  rintro e u4 ⟨v4, rfl, ⟨s4, a4, n4, c4, o4, m4, d4, rfl, q4⟩, h4⟩
  obtain ⟨U4, hU4⟩ : ∃ W, W = u4.alloc (.cells #[.bool s4, .slice a4 n4 c4, .slice o4 m4 d4] 39) := ⟨_, rfl⟩
  obtain ⟨g4, hg4⟩ : ∃ g, g = u4.heap.size := ⟨_, rfl⟩
  have x4 : U4.heap[g4]? = some (.cells #[.bool s4, .slice a4 n4 c4, .slice o4 m4 d4] 39 (0, 0)) := by rw [hU4, hg4]; exact heap_alloc_new _ _
  have e4 : Below u4.heap.size u4 U4 := by rw [hU4]; exact below_new u4 _
  have f4 : Below U3.heap.size U3 U4 := h4.trans (e4.mono h4.size)
  have BB4 : Hid (Below W6.heap.size W6 U4) := Below.trans BB3.out (f4.mono (Below.size BB3.out))
  have XX4 := Lib.hid x4
  have QQ4 : Hid (IsQ ((z1 : Int) : Rat) 5 (.agg #[.bool s4, .slice a4 n4 c4, .slice o4 m4 d4]) U4) := ⟨_, _, _, _, _, _, _, rfl, q4.below e4⟩
  replace XX3 := Lib.hid (carry XX3.out f4)
  replace QQ3 := Lib.hid (ZV.below QQ3.out f4)
  clear k0 k1
  obtain ⟨k0, k1⟩ := (TX6.out.below BB4.out).box.cells
  rw [hU4] at k0 k1
  have HU4 := Lib.hid hU4
  have HG4 := Lib.hid hg4
  clear x4 e4 f4 h4 q4 hU4 hg4
  go_upto_region 5 with fail
  rw [← HU4.out] at k0 k1 ⊢
  try rw [← HG4.out]
  clear HU4 HG4
  go_wp2_with fail
  refine (BC2.out _ BB4.out).mono ?_
  rintro e u5 ⟨v5, rfl, ⟨s5, a5, n5, c5, o5, m5, d5, rfl, q5⟩, h5⟩
  obtain ⟨U5, hU5⟩ : ∃ W, W = u5.alloc (.cells #[.bool s5, .slice a5 n5 c5, .slice o5 m5 d5] 39) := ⟨_, rfl⟩
  obtain ⟨g5, hg5⟩ : ∃ g, g = u5.heap.size := ⟨_, rfl⟩
  have x5 : U5.heap[g5]? = some (.cells #[.bool s5, .slice a5 n5 c5, .slice o5 m5 d5] 39 (0, 0)) := by rw [hU5, hg5]; exact heap_alloc_new _ _
  have e5 : Below u5.heap.size u5 U5 := by rw [hU5]; exact below_new u5 _
  have f5 : Below U4.heap.size U4 U5 := h5.trans (e5.mono h5.size)
  have BB5 : Hid (Below W6.heap.size W6 U5) := Below.trans BB4.out (f5.mono (Below.size BB4.out))
  have XX5 := Lib.hid x5
  have QQ5 : Hid (IsQ ((z2 : Int) : Rat) 5 (.agg #[.bool s5, .slice a5 n5 c5, .slice o5 m5 d5]) U5) := ⟨_, _, _, _, _, _, _, rfl, q5.below e5⟩
  replace XX3 := Lib.hid (carry XX3.out f5)
  replace QQ3 := Lib.hid (ZV.below QQ3.out f5)
  replace XX4 := Lib.hid (carry XX4.out f5)
  replace QQ4 := Lib.hid (ZV.below QQ4.out f5)
  clear k0 k1
  obtain ⟨k0, k1⟩ := (TX6.out.below BB5.out).box.cells
  rw [hU5] at k0 k1
  have HU5 := Lib.hid hU5
  have HG5 := Lib.hid hg5
  clear x5 e5 f5 h5 q5 hU5 hg5
  go_upto_region 6 with fail
  rw [← HU5.out] at k0 k1 ⊢
  try rw [← HG5.out]
  clear HU5 HG5
  go_wp2_with fail
  refine (MC.out _ BB5.out).mono ?_
  rintro e U6 ⟨rfl, f6⟩
  have BB6 : Hid (Below W6.heap.size W6 U6) := Below.trans BB5.out (f6.mono (Below.size BB5.out))
  replace XX3 := Lib.hid (carry XX3.out f6)
  replace QQ3 := Lib.hid (ZV.below QQ3.out f6)
  replace XX4 := Lib.hid (carry XX4.out f6)
  replace QQ4 := Lib.hid (ZV.below QQ4.out f6)
  replace XX5 := Lib.hid (carry XX5.out f6)
  replace QQ5 := Lib.hid (ZV.below QQ5.out f6)
  have TX7 : Hid (TB U6 gy st (some ⟨b, 0, none⟩) n c bs) := TX6.out.below BB6.out
  clear k0 k1 f6
  go_wp2_with fail
  refine wp_region_held_drew (S := fun w' => Below U6.heap.size U6 w') (by kernel_rfl) ((Below.refl _ _).drew) (fun hH => ?_)
  refine wpAnyH_take (i := 0) (v := (.int .i64 0)) rfl (by kernel_rfl) (by kernel_rfl) (by kernel_rfl) (fun _ _ _ h => h) (Or.inl ⟨by kernel_rfl, ?_⟩) hH ?_
  · intro w1 hB
    go_simp
  change wpAnyH _ _ _ _ _ _ _ (Act.put _ (some 45) _) _
  try simp only [Act.put, List.setIfInBounds_toArray, List.set_cons_zero, List.set_cons_succ]
  refine wpAnyH_take (i := 1) (v := (.bool true)) rfl (by kernel_rfl) (by kernel_rfl) (by kernel_rfl) (fun _ _ _ h => h) (Or.inl ⟨by kernel_rfl, ?_⟩) hH ?_
  · intro w1 hB
    go_simp
  change wpAnyH _ _ _ _ _ _ _ (Act.put _ (some 46) _) _
  try simp only [Act.put, List.setIfInBounds_toArray, List.set_cons_zero, List.set_cons_succ]
  refine wpAnyH_take (i := 2) (v := (.bool true)) rfl (by kernel_rfl) (by kernel_rfl) (by kernel_rfl) (fun _ _ _ h => h) (Or.inl ⟨by kernel_rfl, ?_⟩) hH ?_
  · intro w1 hB
    go_simp
  change wpAnyH _ _ _ _ _ _ _ (Act.put _ (some 47) _) _
  try simp only [Act.put, List.setIfInBounds_toArray, List.set_cons_zero, List.set_cons_succ]
  refine wpAnyH_take (i := 3) (v := (.int .i64 0)) rfl (by kernel_rfl) (by kernel_rfl) (by kernel_rfl) (fun _ _ _ h => h) (Or.inl ⟨by kernel_rfl, ?_⟩) hH ?_
  · intro w1 hB
    go_simp
  change wpAnyH _ _ _ _ _ _ _ (Act.put _ (some 48) _) _
  try simp only [Act.put, List.setIfInBounds_toArray, List.set_cons_zero, List.set_cons_succ]
  refine wpAnyH_take (i := 4) (v := (.bool true)) rfl (by kernel_rfl) (by kernel_rfl) (by kernel_rfl) (fun _ _ _ h => h) (Or.inl ⟨by kernel_rfl, ?_⟩) hH ?_
  · intro w1 hB
    go_simp
  change wpAnyH _ _ _ _ _ _ _ (Act.put _ (some 49) _) _
  try simp only [Act.put, List.setIfInBounds_toArray, List.set_cons_zero, List.set_cons_succ]
  refine wpAnyH_take (i := 5) (v := (.bool true)) rfl (by kernel_rfl) (by kernel_rfl) (by kernel_rfl) (fun _ _ _ h => h) (Or.inl ⟨by kernel_rfl, ?_⟩) hH ?_
  · intro w1 hB
    go_simp
  change wpAnyH _ _ _ _ _ _ _ (Act.put _ (some 50) _) _
  try simp only [Act.put, List.setIfInBounds_toArray, List.set_cons_zero, List.set_cons_succ]
  refine wpAnyH_take (i := 6) (v := (.bool true)) rfl (by kernel_rfl) (by kernel_rfl) (by kernel_rfl) (fun _ _ _ h => h) (Or.inl ⟨by kernel_rfl, ?_⟩) hH ?_
  · intro w1 hB
    go_simp
  change wpAnyH _ _ _ _ _ _ _ (Act.put _ (some 51) _) _
  try simp only [Act.put, List.setIfInBounds_toArray, List.set_cons_zero, List.set_cons_succ]
  refine wpAnyH_take (i := 7) (v := (.int .i64 0)) rfl (by kernel_rfl) (by kernel_rfl) (by kernel_rfl) (fun _ _ _ h => h) (Or.inl ⟨by kernel_rfl, ?_⟩) hH ?_
  · intro w1 hB
    go_simp
  change wpAnyH _ _ _ _ _ _ _ (Act.put _ (some 52) _) _
  try simp only [Act.put, List.setIfInBounds_toArray, List.set_cons_zero, List.set_cons_succ]
  refine wpAnyH_take (i := 8) (v := (.bool true)) rfl (by kernel_rfl) (by kernel_rfl) (by kernel_rfl) (fun _ _ _ h => h) (Or.inl ⟨by kernel_rfl, ?_⟩) hH ?_
  · intro w1 hB
    go_simp
  change wpAnyH _ _ _ _ _ _ _ (Act.put _ (some 53) _) _
  try simp only [Act.put, List.setIfInBounds_toArray, List.set_cons_zero, List.set_cons_succ]
  refine wpAnyH_take (i := 9) (v := (.bool true)) rfl (by kernel_rfl) (by kernel_rfl) (by kernel_rfl) (fun _ _ _ h => h) (Or.inl ⟨by kernel_rfl, ?_⟩) hH ?_
  · intro w1 hB
    go_simp
  change wpAnyH _ _ _ _ _ _ _ (Act.put _ (some 54) _) _
  try simp only [Act.put, List.setIfInBounds_toArray, List.set_cons_zero, List.set_cons_succ]
  refine wpAnyH_take (i := 10) (v := (.bool true)) rfl (by kernel_rfl) (by kernel_rfl) (by kernel_rfl) (fun _ _ _ h => h) (Or.inl ⟨by kernel_rfl, ?_⟩) hH ?_
  · intro w1 hB
    go_simp
  change wpAnyH _ _ _ _ _ _ _ (Act.put _ (some 55) _) _
  try simp only [Act.put, List.setIfInBounds_toArray, List.set_cons_zero, List.set_cons_succ]
  refine wpAnyH_take (i := 11) (v := (.int .i64 0)) rfl (by kernel_rfl) (by kernel_rfl) (by kernel_rfl) (fun _ _ _ h => h) (Or.inl ⟨by kernel_rfl, ?_⟩) hH ?_
  · intro w1 hB
    go_simp
  change wpAnyH _ _ _ _ _ _ _ (Act.put _ (some 56) _) _
  try simp only [Act.put, List.setIfInBounds_toArray, List.set_cons_zero, List.set_cons_succ]
  refine wpAnyH_take (i := 12) (v := (.bool true)) rfl (by kernel_rfl) (by kernel_rfl) (by kernel_rfl) (fun _ _ _ h => h) (Or.inl ⟨by kernel_rfl, ?_⟩) hH ?_
  · intro w1 hB
    go_simp
  change wpAnyH _ _ _ _ _ _ _ (Act.put _ (some 57) _) _
  try simp only [Act.put, List.setIfInBounds_toArray, List.set_cons_zero, List.set_cons_succ]
  refine wpAnyH_take (i := 13) (v := (.bool true)) rfl (by kernel_rfl) (by kernel_rfl) (by kernel_rfl) (fun _ _ _ h => h) (Or.inl ⟨by kernel_rfl, ?_⟩) hH ?_
  · intro w1 hB
    go_simp
  change wpAnyH _ _ _ _ _ _ _ (Act.put _ (some 58) _) _
  try simp only [Act.put, List.setIfInBounds_toArray, List.set_cons_zero, List.set_cons_succ]
  refine wpAnyH_take (i := 14) (v := (.bool true)) rfl (by kernel_rfl) (by kernel_rfl) (by kernel_rfl) (fun _ _ _ h => h) (Or.inl ⟨by kernel_rfl, ?_⟩) hH ?_
  · intro w1 hB
    go_simp
  change wpAnyH _ _ _ _ _ _ _ (Act.put _ (some 59) _) _
  try simp only [Act.put, List.setIfInBounds_toArray, List.set_cons_zero, List.set_cons_succ]
  refine wpAnyH_take (i := 15) (v := (.agg #[.bool s3, .slice a3 n3 c3, .slice o3 m3 d3])) rfl (by kernel_rfl) (by kernel_rfl) (by kernel_rfl) (fun _ _ _ h => h) (Or.inl ⟨by kernel_rfl, ?_⟩) hH ?_
  · intro w1 hB
    obtain ⟨k0, k1⟩ := (TX7.out.below hB).box.cells
    obtain ⟨p3, p3', p3'', -, -, -⟩ := at_block (carry XX3.out hB)
    obtain ⟨p4, p4', p4'', -, -, -⟩ := at_block (carry XX4.out hB)
    obtain ⟨p5, p5', p5'', -, -, -⟩ := at_block (carry XX5.out hB)
    go_simp
  change wpAnyH _ _ _ _ _ _ _ (Act.put _ (some 60) _) _
  try simp only [Act.put, List.setIfInBounds_toArray, List.set_cons_zero, List.set_cons_succ]
  refine wpAnyH_take (i := 16) (v := (.pointer (some ⟨gy, 0, none⟩))) rfl (by kernel_rfl) (by kernel_rfl) (by kernel_rfl) (fun _ _ _ h => h) (Or.inl ⟨by kernel_rfl, ?_⟩) hH ?_
  · intro w1 hB
    go_simp
  change wpAnyH _ _ _ _ _ _ _ (Act.put _ (some 61) _) _
  try simp only [Act.put, List.setIfInBounds_toArray, List.set_cons_zero, List.set_cons_succ]
  refine wpAnyH_take (i := 17) (v := (.int .i64 st)) rfl (by kernel_rfl) (by kernel_rfl) (by kernel_rfl) (fun _ _ _ h => h) (Or.inl ⟨by kernel_rfl, ?_⟩) hH ?_
  · intro w1 hB
    obtain ⟨k0, k1⟩ := (TX7.out.below hB).box.cells
    obtain ⟨p3, p3', p3'', -, -, -⟩ := at_block (carry XX3.out hB)
    obtain ⟨p4, p4', p4'', -, -, -⟩ := at_block (carry XX4.out hB)
    obtain ⟨p5, p5', p5'', -, -, -⟩ := at_block (carry XX5.out hB)
    go_simp
  change wpAnyH _ _ _ _ _ _ _ (Act.put _ (some 62) _) _
  try simp only [Act.put, List.setIfInBounds_toArray, List.set_cons_zero, List.set_cons_succ]
  refine wpAnyH_ready (rs := [18]) (by kernel_rfl) (by simp) ?_
  refine AllReadyH.cons rfl (fun K hK => ?_) AllReadyH.nil
  go_simp
  refine (rFromInt_z st (by have := HST.out; omega) (by have := HST.out; omega) _).mono ?_
  rintro e V18 ⟨w18, rfl, q18, v18⟩
  try go_simp
  refine hK.out _ _ (keepB v18 hH (Nat.le_refl _)) (fun hH18 => ?_)
  clear hK K
  try simp only [Act.put, List.setIfInBounds_toArray, List.set_cons_zero, List.set_cons_succ]
  refine wpAnyH_ready (rs := [19]) (by kernel_rfl) (by simp) ?_
  refine AllReadyH.cons rfl (fun K hK => ?_) AllReadyH.nil
  go_simp
  refine (same_z (ZV.below QQ3.out hH18) q18 (by rw [HZ0.out])).mono ?_
  rintro e V19 ⟨rfl, v19⟩
  try go_simp
  refine hK.out _ _ (keepB v19 hH18 (Nat.le_refl _)) (fun hH19 => ?_)
  clear hK K
  try simp only [Act.put, List.setIfInBounds_toArray, List.set_cons_zero, List.set_cons_succ]
  refine wpAnyH_take (i := 20) (v := (.bool true)) rfl (by kernel_rfl) (by kernel_rfl) (by kernel_rfl) (fun _ _ _ h => h) (Or.inl ⟨by kernel_rfl, ?_⟩) hH19 ?_
  · intro w1 hB
    go_simp
  change wpAnyH _ _ _ _ _ _ _ (Act.put _ (some 65) _) _
  try simp only [Act.put, List.setIfInBounds_toArray, List.set_cons_zero, List.set_cons_succ]
  refine wpAnyH_take (i := 21) (v := (.bool true)) rfl (by kernel_rfl) (by kernel_rfl) (by kernel_rfl) (fun _ _ _ h => h) (Or.inl ⟨by kernel_rfl, ?_⟩) hH19 ?_
  · intro w1 hB
    go_simp
  change wpAnyH _ _ _ _ _ _ _ (Act.put _ (some 66) _) _
  try simp only [Act.put, List.setIfInBounds_toArray, List.set_cons_zero, List.set_cons_succ]
  refine wpAnyH_take (i := 22) (v := (.agg #[.bool s5, .slice a5 n5 c5, .slice o5 m5 d5])) rfl (by kernel_rfl) (by kernel_rfl) (by kernel_rfl) (fun _ _ _ h => h) (Or.inl ⟨by kernel_rfl, ?_⟩) hH19 ?_
  · intro w1 hB
    obtain ⟨k0, k1⟩ := (TX7.out.below hB).box.cells
    obtain ⟨p3, p3', p3'', -, -, -⟩ := at_block (carry XX3.out hB)
    obtain ⟨p4, p4', p4'', -, -, -⟩ := at_block (carry XX4.out hB)
    obtain ⟨p5, p5', p5'', -, -, -⟩ := at_block (carry XX5.out hB)
    go_simp
  change wpAnyH _ _ _ _ _ _ _ (Act.put _ (some 67) _) _
  try simp only [Act.put, List.setIfInBounds_toArray, List.set_cons_zero, List.set_cons_succ]
  refine wpAnyH_take (i := 23) (v := (.agg #[.bool s4, .slice a4 n4 c4, .slice o4 m4 d4])) rfl (by kernel_rfl) (by kernel_rfl) (by kernel_rfl) (fun _ _ _ h => h) (Or.inl ⟨by kernel_rfl, ?_⟩) hH19 ?_
  · intro w1 hB
    obtain ⟨k0, k1⟩ := (TX7.out.below hB).box.cells
    obtain ⟨p3, p3', p3'', -, -, -⟩ := at_block (carry XX3.out hB)
    obtain ⟨p4, p4', p4'', -, -, -⟩ := at_block (carry XX4.out hB)
    obtain ⟨p5, p5', p5'', -, -, -⟩ := at_block (carry XX5.out hB)
    go_simp
  change wpAnyH _ _ _ _ _ _ _ (Act.put _ (some 68) _) _
  try simp only [Act.put, List.setIfInBounds_toArray, List.set_cons_zero, List.set_cons_succ]
  refine wpAnyH_take (i := 25) (v := (.int .i64 mg)) rfl (by kernel_rfl) (by kernel_rfl) (by kernel_rfl) (fun _ _ _ h => h) (Or.inl ⟨by kernel_rfl, ?_⟩) hH19 ?_
  · intro w1 hB
    go_simp
  change wpAnyH _ _ _ _ _ _ _ (Act.put _ (some 70) _) _
  try simp only [Act.put, List.setIfInBounds_toArray, List.set_cons_zero, List.set_cons_succ]
  refine wpAnyH_ready (rs := [24]) (by kernel_rfl) (by simp) ?_
  refine AllReadyH.cons rfl (fun K hK => ?_) AllReadyH.nil
  go_simp
  refine (rSub_z (ZV.below QQ5.out hH19) (ZV.below QQ4.out hH19) (by rw [HDF.out, pw5]; have := HMG.out; omega)).mono ?_
  rintro e V24 ⟨w24, rfl, q24, v24⟩
  try go_simp
  refine hK.out _ _ (keepB v24 hH19 (Nat.le_refl _)) (fun hH24 => ?_)
  clear hK K
  try simp only [Act.put, List.setIfInBounds_toArray, List.set_cons_zero, List.set_cons_succ]
  refine wpAnyH_ready (rs := [26]) (by kernel_rfl) (by simp) ?_
  refine AllReadyH.cons rfl (fun K hK => ?_) AllReadyH.nil
  go_simp
  refine (rFromInt_z mg (by have := HMG.out; omega) (by have := HMG.out; omega) _).mono ?_
  rintro e V26 ⟨w26, rfl, q26, v26⟩
  try go_simp
  refine hK.out _ _ (keepB v26 hH24 (Nat.le_refl _)) (fun hH26 => ?_)
  clear hK K
  try simp only [Act.put, List.setIfInBounds_toArray, List.set_cons_zero, List.set_cons_succ]
  refine wpAnyH_ready (rs := [27]) (by kernel_rfl) (by simp) ?_
  refine AllReadyH.cons rfl (fun K hK => ?_) AllReadyH.nil
  go_simp
  refine (same_z (ZV.below q24 v26) q26 (by rw [HDF.out])).mono ?_
  rintro e V27 ⟨rfl, v27⟩
  try go_simp
  refine hK.out _ _ (keepB v27 hH26 (Nat.le_refl _)) (fun hH27 => ?_)
  clear hK K
  try simp only [Act.put, List.setIfInBounds_toArray, List.set_cons_zero, List.set_cons_succ]
  refine wpAnyH_take (i := 28) (v := (.bool true)) rfl (by kernel_rfl) (by kernel_rfl) (by kernel_rfl) (fun _ _ _ h => h) (Or.inl ⟨by kernel_rfl, ?_⟩) hH27 ?_
  · intro w1 hB
    go_simp
  change wpAnyH _ _ _ _ _ _ _ (Act.put _ (some 73) _) _
  try simp only [Act.put, List.setIfInBounds_toArray, List.set_cons_zero, List.set_cons_succ]
  refine wpAnyH_take (i := 29) (v := (.bool true)) rfl (by kernel_rfl) (by kernel_rfl) (by kernel_rfl) (fun _ _ _ h => h) (Or.inl ⟨by kernel_rfl, ?_⟩) hH27 ?_
  · intro w1 hB
    go_simp
  change wpAnyH _ _ _ _ _ _ _ (Act.put _ (some 74) _) _
  try simp only [Act.put, List.setIfInBounds_toArray, List.set_cons_zero, List.set_cons_succ]
  refine wpAnyH_ready (rs := [30]) (by kernel_rfl) (by simp) ?_
  refine AllReadyH.cons rfl (fun K hK => ?_) AllReadyH.nil
  go_simp
  refine (awake_v _).mono ?_
  rintro e V30 ⟨rfl, v30⟩
  try go_simp
  refine hK.out _ _ (keepB v30 hH27 (Nat.le_refl _)) (fun hH30 => ?_)
  clear hK K
  try simp only [Act.put, List.setIfInBounds_toArray, List.set_cons_zero, List.set_cons_succ]
  refine wpAnyH_take (i := 31) (v := (.bool true)) rfl (by kernel_rfl) (by kernel_rfl) (by kernel_rfl) (fun _ _ _ h => h) (Or.inl ⟨by kernel_rfl, ?_⟩) hH30 ?_
  · intro w1 hB
    go_simp
  change wpAnyH _ _ _ _ _ _ _ (Act.put _ (some 76) _) _
  try simp only [Act.put, List.setIfInBounds_toArray, List.set_cons_zero, List.set_cons_succ]
  refine wpAnyH_take (i := 32) (v := (.bool true)) rfl (by kernel_rfl) (by kernel_rfl) (by kernel_rfl) (fun _ _ _ h => h) (Or.inl ⟨by kernel_rfl, ?_⟩) hH30 ?_
  · intro w1 hB
    go_simp
  change wpAnyH _ _ _ _ _ _ _ (Act.put _ (some 4) _) _
  try simp only [Act.put, List.setIfInBounds_toArray, List.set_cons_zero, List.set_cons_succ]
  refine wpAnyH_done (by kernel_rfl) ?_ _
  go_wp2_with fail
  go_ret
  exact ⟨rfl, (B6.out.trans (BB6.out.mono B6.out.size)).trans (Below.mono hH30 (Nat.le_trans B6.out.size BB6.out.size))⟩
end Go.Proofs.Ytjmogoijnkcnpaa.T14
