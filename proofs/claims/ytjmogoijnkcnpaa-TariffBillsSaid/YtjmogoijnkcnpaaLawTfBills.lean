import Derived.Test.YtjmogoijnkcnpaaTfQ0
/- TariffBills for all inputs: Bill and Marginal of the code against the reference's. -/
namespace Go.Proofs.Ytjmogoijnkcnpaa.T14
open Go.RowKit Go.Sort C6

set_option maxHeartbeats 16000000 in
set_option maxRecDepth 100000 in
theorem TariffBills_any (st : Int) (ao0 : Option Addr) (cap0 : Nat) (bs : List (Int × Int)) (nn : Int) (ao1 : Option Addr) (ts : List Int) (cap1 : Nat) (w : World) (hr : RdK w ao0 cap0 bs) (ht : RdZ w ao1 cap1 ts) :
    Calls Try.prog 4 #[.agg #[.int .i64 st, .slice ao0 bs.length cap0], .int .i64 nn, .slice ao1 ts.length cap1] w fun e w' => e = .returned (.bool true) ∧ Below w.heap.size w w' := by
  obtain ⟨n0, hn0⟩ : ∃ n, n = bs.length := ⟨_, rfl⟩
  obtain ⟨tn, htn⟩ : ∃ n, n = ts.length := ⟨_, rfl⟩
  obtain ⟨W1, hW1⟩ : ∃ W, W = w.alloc (.cells #[.int .i64 st, .slice ao0 n0 cap0] 24) := ⟨_, rfl⟩
  obtain ⟨W2, hW2⟩ : ∃ W, W = W1.alloc (.cells #[.slice ao1 tn cap1, .int .i64 0] 29) := ⟨_, rfl⟩
  obtain ⟨g0, hg0⟩ : ∃ g, g = w.heap.size := ⟨_, rfl⟩
  have s1 : W1.heap.size = g0 + 1 := by rw [hW1, hg0]; simp
  have s2 : W2.heap.size = g0 + 1 + 1 := by rw [hW2]; simp [s1]
  have b1 : Below w.heap.size w W1 := by rw [hW1]; exact below_new w _
  have b2 : Below W1.heap.size W1 W2 := by rw [hW2]; exact below_new W1 _
  have x1 : TfBox W1 g0 st ao0 n0 cap0 := by rw [hW1, hg0]; exact TfBox.new w _ _ _ _
  have x2 : TfBox W2 g0 st ao0 n0 cap0 := x1.below b2 x1.lt
  have t2 : Tap W2 (g0 + 1) ao1 ts.length cap1 0 := by rw [hW2, ← s1, ← htn]; exact Tap.new W1 _ _ _
  have B2 : Below w.heap.size w W2 := b1.trans (b2.mono b1.size)
  have r2 : RdK W2 ao0 cap0 bs := hr.below B2
  have z2 : RdZ W2 ao1 cap1 ts := ht.below B2
  have AMO : Hid (∀ (w1 : World) (j : Nat) (sy : Int) (ay : Option Addr) (cy ny : Nat) (bsy : List (Int × Int)), Tap w1 (g0 + 1) ao1 tn cap1 j → W2.grownBy w1 (some (g0 + 1)) → j ≤ 1000 → RdK w1 ay cy bsy → offB ay bsy (fun b => g0 + 1 < b) → bsy.length = ny → ny ≤ 10 →
      Calls Try.prog 15 #[.pointer (some ⟨g0 + 1, 0, none⟩), .agg #[.int .i64 sy, .slice ay ny cy]] w1 (AmPost w1 (g0 + 1) ao1 tn cap1 j)) := by
    intro w1 j sy ay cy ny bsy h1 h2 h3 h4 h5 h6 h7
    rw [htn] at h1 ⊢
    rw [← h6]
    refine amount_v (g0 + 1) ao1 cap1 ts j sy ay cy bsy w1 h1 ?_ (fun h0 b o e => by have h8 := rdz_lt ht h0 b o e; have h9 := h2.size; omega) h3 h4 (fun h0 b o e => by have := h5 h0 b o e; omega) (by omega)
    refine ⟨z2.1, z2.2.1, ?_⟩
    rcases z2.2.2 with hn | ⟨b, o, e, hc⟩
    · exact .inl hn
    · refine .inr ⟨b, o, e, fun i v hi => ?_⟩
      have hl : 0 < ts.length := by
        have := (List.getElem?_eq_some_iff.1 hi).1
        rw [intz_length] at this
        omega
      exact h2.cell (hc i v hi) (fun q => by have h8 := rdz_lt ht hl b o e; have h9 : b = g0 + 1 := Option.some.inj q; omega)
  have SPO : Hid (Calls Try.prog 10 #[.pointer (some ⟨g0 + 1, 0, none⟩)] W2 (SpPost W2 (g0 + 1) ao1 tn cap1 0)) := by
    rw [htn]
    exact spoiled_v (g0 + 1) ao1 cap1 ts 0 W2 t2 z2 (fun h0 b o e => by have := rdz_lt ht h0 b o e; omega) (by omega)
  have HB2 := Lib.hid B2
  have X2 := Lib.hid x2
  have S2 := Lib.hid s2
  have R2 := Lib.hid r2
  have L0 : Hid (offB ao0 bs (fun b => b < g0)) := fun h0 b o e => by have := hr.lt h0 b o e; omega
  have HN0 := Lib.hid hn0
  have HG0 := Lib.hid hg0
  have HU : Hid (W2 = (w.alloc (.cells #[.int .i64 st, .slice ao0 n0 cap0] 24)).alloc (.cells #[.slice ao1 tn cap1, .int .i64 0] 29)) := by unfold Hid; rw [hW2, hW1]
  rw [← hn0, ← htn]
  clear hn0 htn hr ht s1 s2 b1 b2 x1 x2 t2 B2 r2 z2 hW1 hW2 hg0
  go_enter Try.func4, Try.ntmps4
  go_wp2_with fail
  rw [← HU.out]
  rw [← HG0.out]
  clear HU
  refine (SPO.out).mono ?_
  rintro e w3 ⟨sy, ay, cy, bsy, j3, rfl, own3, hly, g3, hj3, t3⟩
  obtain ⟨ny, hny⟩ : ∃ n, n = bsy.length := ⟨_, rfl⟩
  rw [← hny] at own3 hly ⊢
  obtain ⟨ry, -, oy⟩ := rd_of_own own3
  obtain ⟨W4, hW4⟩ : ∃ W, W = w3.alloc (.cells #[.int .i64 sy, .slice ay ny cy] 24) := ⟨_, rfl⟩
  obtain ⟨gy, hgy⟩ : ∃ g, g = w3.heap.size := ⟨_, rfl⟩
  have b4 : Below w3.heap.size w3 W4 := by rw [hW4]; exact below_new w3 _
  have y4 : TfBox W4 gy sy ay ny cy := by rw [hW4, hgy]; exact TfBox.new w3 _ _ _ _
  have TY4 : TB W4 gy sy ay ny cy bsy := ⟨y4, ry.below b4, hny.symm, hly⟩
  have x3 : TfBox w3 g0 st ao0 n0 cap0 := X2.out.grown g3 (fun e => by have := Option.some.inj e; omega)
  have x4 : TfBox W4 g0 st ao0 n0 cap0 := x3.below b4 x3.lt
  have r4 : RdK W4 ao0 cap0 bs := (R2.out.gbne (fun h0 b o e => by have := L0.out h0 b o e; omega) g3).below b4
  have B3 : Below w.heap.size w w3 := HB2.out.grown g3 HB2.out.size (fun r e => by have := Option.some.inj e; have := HG0.out; omega)
  have B4 : Below w.heap.size w W4 := B3.trans (b4.mono B3.size)
  have hgy0 : g0 + 1 < gy := by have := g3.size; have := S2.out; omega
  have HR4 := Lib.hid r4
  have HNY : Hid (bsy.length = ny ∧ ny ≤ 10) := ⟨hny.symm, hly⟩
  have T4 : Hid (Tap W4 (g0 + 1) ao1 tn cap1 j3) := t3.keep b4
  have G4 : Hid (W2.grownBy W4 (some (g0 + 1))) := gb_trans g3 (below_gb b4 _)
  have HJ3 : Hid (j3 ≤ 30) := by unfold Hid; omega
  have HTY4 := Lib.hid TY4
  have HX4 := Lib.hid x4
  have HB4 := Lib.hid B4
  have HOY : Hid (offB ay bsy (fun b => g0 + 1 < b)) := fun h0 b o e => by have := oy h0 b o e; have := S2.out; show g0 + 1 < b; omega
  have HGY := Lib.hid hgy0
  have HV := Lib.hid hW4
  have HVG := Lib.hid hgy
  obtain ⟨k0, k1⟩ := x4.cells
  rw [hW4] at k0 k1
  clear own3 hny hly g3 t3 hj3 ry oy b4 y4 TY4 x3 x4 r4 B3 B4 hgy0 hW4 hgy SPO HB2 X2 S2 R2
  obtain ⟨m0, m1⟩ := HTY4.out.box.cells
  rw [HV.out] at m0 m1
  go_upto_region 3 with fail
  rw [← HV.out] at k0 k1 m0 m1 ⊢
  try rw [← HVG.out]
  clear HV HVG
  go_wp2_with fail
  refine (AMO.out W4 j3 sy ay cy ny bsy T4.out G4.out (by have := HJ3.out; omega) HTY4.out.rd HOY.out HNY.out.1 HNY.out.2).mono ?_
  rintro e wa ⟨ka, ja, rfl, ga, -, -⟩
  have tya : TB wa gy sy ay ny cy bsy := HTY4.out.grown ga (fun e => by have := Option.some.inj e; have := HGY.out; omega) (fun h0 b o e e2 => by have := HOY.out h0 b o e; have := Option.some.inj e2; omega)
  have xa : TfBox wa g0 st ao0 n0 cap0 := HX4.out.grown ga (fun e => by have := Option.some.inj e; omega)
  have ra : RdK wa ao0 cap0 bs := HR4.out.gbne (fun h0 b o e => by have := L0.out h0 b o e; omega) ga
  have Ba : Below w.heap.size w wa := HB4.out.grown ga HB4.out.size (fun r e => by have := Option.some.inj e; have := HG0.out; omega)
  have RW : Hid (Calls Try.prog 11 #[.agg #[.int .i64 st, .slice ao0 n0 cap0]] wa (RwPost st (bs.take 10) wa)) := by
    have := raw_v st ao0 cap0 bs wa ra
    rwa [← HN0.out] at this
  have HTY4 := Lib.hid tya
  have HX4 := Lib.hid xa
  have HB4 := Lib.hid Ba
  clear k0 k1 m0 m1 ga T4 G4 HJ3 HR4 AMO ra
  obtain ⟨k0, k1⟩ := xa.cells
  clear xa tya Ba
  go_wp2_with fail
  refine (RW.out).mono ?_
  rintro e w5 ⟨a5, c5, rfl, own5, b5⟩
  obtain ⟨n5, hn5⟩ : ∃ n, n = (bs.take 10).length := ⟨_, rfl⟩
  rw [← hn5] at own5 ⊢
  obtain ⟨r5, -, o5⟩ := rd_of_own own5
  have x5 := HX4.out.below b5 HX4.out.lt
  have ty5 := HTY4.out.below b5
  obtain ⟨W6, hW6⟩ : ∃ W, W = (w5.setCell ⟨g0, 0, none⟩ (.int .i64 st)).setCell ⟨g0, 1, none⟩ (.slice a5 n5 c5) := ⟨_, rfl⟩
  have g6 : w5.grownBy W6 (some g0) := by rw [hW6]; exact gb_trans (gb_set w5 g0 0 _) (gb_set _ g0 1 _)
  have x6 : TfBox W6 g0 st a5 n5 c5 := by rw [hW6]; exact x5.put2 _ _ _ _
  have TX6 : Hid (TB W6 g0 st a5 n5 c5 (bs.take 10)) := ⟨x6, r5.grown (fun h0 b o e e2 => by have := o5 h0 b o e; have := Option.some.inj e2; have := HX4.out.lt; omega) g6, hn5.symm, by rw [hn5, List.length_take]; omega⟩
  have TY6 : Hid (TB W6 gy sy ay ny cy bsy) := ty5.grown g6 (fun e => by have := Option.some.inj e; have := HGY.out; omega) (fun h0 b o e e2 => by have := HOY.out h0 b o e; have := Option.some.inj e2; omega)
  have B6 : Hid (Below w.heap.size w W6) := (HB4.out.trans (b5.mono HB4.out.size)).grown g6 (by have := HB4.out.size; have := b5.size; omega) (fun r e => by have := Option.some.inj e; have := HG0.out; omega)
  obtain ⟨p0, p1⟩ := x5.cells
  have pf0 := x5.fz 0
  have pf1 := x5.fz 1
  have HV := Lib.hid hW6
  clear own5 hn5 b5 r5 o5 x5 ty5 g6 x6 hW6 k0 k1 RW HX4 HTY4 HB4 HOY
  go_wp2_with fail
  rw [← HV.out]
  clear HV p0 p1 pf0 pf1
  obtain ⟨ex, hex⟩ : ∃ ex, ex = aE st (bs.take 10) nn := ⟨_, rfl⟩
  obtain ⟨ey, hey⟩ : ∃ ey, ey = aE sy bsy ka := ⟨_, rfl⟩
  obtain ⟨qx, hqx⟩ : ∃ q, q = bilQ st (bs.take 10) nn := ⟨_, rfl⟩
  obtain ⟨qy, hqy⟩ : ∃ q, q = bilQ sy bsy ka := ⟨_, rfl⟩
  obtain ⟨mx, hmx⟩ : ∃ q, q = mrgQ st (bs.take 10) nn := ⟨_, rfl⟩
  obtain ⟨my, hmy⟩ : ∃ q, q = mrgQ sy bsy ka := ⟨_, rfl⟩
  have BX : Hid (∀ w', Below W6.heap.size W6 w' → Calls Try.prog 16 #[.agg #[.int .i64 st, .slice a5 n5 c5], .int .i64 nn] w' (MkE ex ((qx : Int) : Rat) 5 w')) := fun w' hb => by rw [hex, hqx]; exact (TX6.out.below hb).bill nn
  have RX : Hid (∀ w', Below W6.heap.size W6 w' → Calls Try.prog 17 #[.agg #[.int .i64 st, .slice a5 n5 c5], .int .i64 nn] w' (MkE ex ((qx : Int) : Rat) 5 w')) := fun w' hb => by rw [hex, hqx]; exact (TX6.out.below hb).rbill nn
  have BY : Hid (∀ w', Below W6.heap.size W6 w' → Calls Try.prog 16 #[.agg #[.int .i64 sy, .slice ay ny cy], .int .i64 ka] w' (MkE ey ((qy : Int) : Rat) 5 w')) := fun w' hb => by rw [hey, hqy]; exact (TY6.out.below hb).bill ka
  have RY : Hid (∀ w', Below W6.heap.size W6 w' → Calls Try.prog 17 #[.agg #[.int .i64 sy, .slice ay ny cy], .int .i64 ka] w' (MkE ey ((qy : Int) : Rat) 5 w')) := fun w' hb => by rw [hey, hqy]; exact (TY6.out.below hb).rbill ka
  have MX : Hid (∀ w', Below W6.heap.size W6 w' → Calls Try.prog 18 #[.agg #[.int .i64 st, .slice a5 n5 c5], .int .i64 nn] w' (ZE ex mx w')) := fun w' hb => by rw [hex, hmx]; exact (TX6.out.below hb).marginal nn
  have NXX : Hid (∀ w', Below W6.heap.size W6 w' → Calls Try.prog 19 #[.agg #[.int .i64 st, .slice a5 n5 c5], .int .i64 nn] w' (ZE ex mx w')) := fun w' hb => by rw [hex, hmx]; exact (TX6.out.below hb).rmarginal nn
  have MY : Hid (∀ w', Below W6.heap.size W6 w' → Calls Try.prog 18 #[.agg #[.int .i64 sy, .slice ay ny cy], .int .i64 ka] w' (ZE ey my w')) := fun w' hb => by rw [hey, hmy]; exact (TY6.out.below hb).marginal ka
  have NY : Hid (∀ w', Below W6.heap.size W6 w' → Calls Try.prog 19 #[.agg #[.int .i64 sy, .slice ay ny cy], .int .i64 ka] w' (ZE ey my w')) := fun w' hb => by rw [hey, hmy]; exact (TY6.out.below hb).rmarginal ka
  clear hex hey hqx hqy hmx hmy
  have RB6 : Hid (Below W6.heap.size W6 W6) := Below.refl _ _
  obtain ⟨k0, k1⟩ := (TX6.out.below RB6.out).box.cells
  obtain ⟨j0, j1⟩ := (TY6.out.below RB6.out).box.cells
  go_wp2_with fail
  refine (BX.out _ RB6.out).mono ?_
  rintro e u5 ⟨v5, rfl, ⟨s5, a5, n5, c5, o5, m5, d5, rfl, q5⟩, h5⟩
  obtain ⟨U5, hU5⟩ : ∃ W, W = u5.alloc (.cells #[.bool s5, .slice a5 n5 c5, .slice o5 m5 d5] 39) := ⟨_, rfl⟩
  obtain ⟨g5, hg5⟩ : ∃ g, g = u5.heap.size := ⟨_, rfl⟩
  have x5 : U5.heap[g5]? = some (.cells #[.bool s5, .slice a5 n5 c5, .slice o5 m5 d5] 39 (0, 0)) := by rw [hU5, hg5]; exact heap_alloc_new _ _
  have e5 : Below u5.heap.size u5 U5 := by rw [hU5]; exact below_new u5 _
  have f5 : Below W6.heap.size W6 U5 := h5.trans (e5.mono h5.size)
  have BB5 : Hid (Below W6.heap.size W6 U5) := Below.trans RB6.out (f5.mono (Below.size RB6.out))
  have XX5 := Lib.hid x5
  have QQ5 : Hid (IsQ ((qx : Int) : Rat) 5 (.agg #[.bool s5, .slice a5 n5 c5, .slice o5 m5 d5]) U5) := ⟨_, _, _, _, _, _, _, rfl, q5.below e5⟩
  clear k0 k1 j0 j1
  obtain ⟨k0, k1⟩ := (TX6.out.below BB5.out).box.cells
  obtain ⟨j0, j1⟩ := (TY6.out.below BB5.out).box.cells
  rw [hU5] at k0 k1 j0 j1
  have HU5 := Lib.hid hU5
  have HG5 := Lib.hid hg5
  clear x5 e5 f5 h5 q5 hU5 hg5
  go_upto_region 6 with fail
  rw [← HU5.out] at k0 k1 j0 j1 ⊢
  try rw [← HG5.out]
  clear HU5 HG5
  go_wp2_with fail
  refine (RX.out _ BB5.out).mono ?_
  rintro e u6 ⟨v6, rfl, ⟨s6, a6, n6, c6, o6, m6, d6, rfl, q6⟩, h6⟩
  obtain ⟨U6, hU6⟩ : ∃ W, W = u6.alloc (.cells #[.bool s6, .slice a6 n6 c6, .slice o6 m6 d6] 39) := ⟨_, rfl⟩
  obtain ⟨g6, hg6⟩ : ∃ g, g = u6.heap.size := ⟨_, rfl⟩
  have x6 : U6.heap[g6]? = some (.cells #[.bool s6, .slice a6 n6 c6, .slice o6 m6 d6] 39 (0, 0)) := by rw [hU6, hg6]; exact heap_alloc_new _ _
  have e6 : Below u6.heap.size u6 U6 := by rw [hU6]; exact below_new u6 _
  have f6 : Below U5.heap.size U5 U6 := h6.trans (e6.mono h6.size)
  have BB6 : Hid (Below W6.heap.size W6 U6) := Below.trans BB5.out (f6.mono (Below.size BB5.out))
  have XX6 := Lib.hid x6
  have QQ6 : Hid (IsQ ((qx : Int) : Rat) 5 (.agg #[.bool s6, .slice a6 n6 c6, .slice o6 m6 d6]) U6) := ⟨_, _, _, _, _, _, _, rfl, q6.below e6⟩
  replace XX5 := Lib.hid (carry XX5.out f6)
  replace QQ5 := Lib.hid (ZV.below QQ5.out f6)
  clear k0 k1 j0 j1
  obtain ⟨k0, k1⟩ := (TX6.out.below BB6.out).box.cells
  obtain ⟨j0, j1⟩ := (TY6.out.below BB6.out).box.cells
  rw [hU6] at k0 k1 j0 j1
  have HU6 := Lib.hid hU6
  have HG6 := Lib.hid hg6
  clear x6 e6 f6 h6 q6 hU6 hg6
  go_upto_region 7 with fail
  rw [← HU6.out] at k0 k1 j0 j1 ⊢
  try rw [← HG6.out]
  clear HU6 HG6
  go_wp2_with fail
  refine (BY.out _ BB6.out).mono ?_
  rintro e u7 ⟨v7, rfl, ⟨s7, a7, n7, c7, o7, m7, d7, rfl, q7⟩, h7⟩
  obtain ⟨U7, hU7⟩ : ∃ W, W = u7.alloc (.cells #[.bool s7, .slice a7 n7 c7, .slice o7 m7 d7] 39) := ⟨_, rfl⟩
  obtain ⟨g7, hg7⟩ : ∃ g, g = u7.heap.size := ⟨_, rfl⟩
  have x7 : U7.heap[g7]? = some (.cells #[.bool s7, .slice a7 n7 c7, .slice o7 m7 d7] 39 (0, 0)) := by rw [hU7, hg7]; exact heap_alloc_new _ _
  have e7 : Below u7.heap.size u7 U7 := by rw [hU7]; exact below_new u7 _
  have f7 : Below U6.heap.size U6 U7 := h7.trans (e7.mono h7.size)
  have BB7 : Hid (Below W6.heap.size W6 U7) := Below.trans BB6.out (f7.mono (Below.size BB6.out))
  have XX7 := Lib.hid x7
  have QQ7 : Hid (IsQ ((qy : Int) : Rat) 5 (.agg #[.bool s7, .slice a7 n7 c7, .slice o7 m7 d7]) U7) := ⟨_, _, _, _, _, _, _, rfl, q7.below e7⟩
  replace XX5 := Lib.hid (carry XX5.out f7)
  replace QQ5 := Lib.hid (ZV.below QQ5.out f7)
  replace XX6 := Lib.hid (carry XX6.out f7)
  replace QQ6 := Lib.hid (ZV.below QQ6.out f7)
  clear k0 k1 j0 j1
  obtain ⟨k0, k1⟩ := (TX6.out.below BB7.out).box.cells
  obtain ⟨j0, j1⟩ := (TY6.out.below BB7.out).box.cells
  rw [hU7] at k0 k1 j0 j1
  have HU7 := Lib.hid hU7
  have HG7 := Lib.hid hg7
  clear x7 e7 f7 h7 q7 hU7 hg7
  go_upto_region 8 with fail
  rw [← HU7.out] at k0 k1 j0 j1 ⊢
  try rw [← HG7.out]
  clear HU7 HG7
  go_wp2_with fail
  refine (RY.out _ BB7.out).mono ?_
  rintro e u8 ⟨v8, rfl, ⟨s8, a8, n8, c8, o8, m8, d8, rfl, q8⟩, h8⟩
  obtain ⟨U8, hU8⟩ : ∃ W, W = u8.alloc (.cells #[.bool s8, .slice a8 n8 c8, .slice o8 m8 d8] 39) := ⟨_, rfl⟩
  obtain ⟨g8, hg8⟩ : ∃ g, g = u8.heap.size := ⟨_, rfl⟩
  have x8 : U8.heap[g8]? = some (.cells #[.bool s8, .slice a8 n8 c8, .slice o8 m8 d8] 39 (0, 0)) := by rw [hU8, hg8]; exact heap_alloc_new _ _
  have e8 : Below u8.heap.size u8 U8 := by rw [hU8]; exact below_new u8 _
  have f8 : Below U7.heap.size U7 U8 := h8.trans (e8.mono h8.size)
  have BB8 : Hid (Below W6.heap.size W6 U8) := Below.trans BB7.out (f8.mono (Below.size BB7.out))
  have XX8 := Lib.hid x8
  have QQ8 : Hid (IsQ ((qy : Int) : Rat) 5 (.agg #[.bool s8, .slice a8 n8 c8, .slice o8 m8 d8]) U8) := ⟨_, _, _, _, _, _, _, rfl, q8.below e8⟩
  replace XX5 := Lib.hid (carry XX5.out f8)
  replace QQ5 := Lib.hid (ZV.below QQ5.out f8)
  replace XX6 := Lib.hid (carry XX6.out f8)
  replace QQ6 := Lib.hid (ZV.below QQ6.out f8)
  replace XX7 := Lib.hid (carry XX7.out f8)
  replace QQ7 := Lib.hid (ZV.below QQ7.out f8)
  clear k0 k1 j0 j1
  obtain ⟨k0, k1⟩ := (TX6.out.below BB8.out).box.cells
  obtain ⟨j0, j1⟩ := (TY6.out.below BB8.out).box.cells
  rw [hU8] at k0 k1 j0 j1
  have HU8 := Lib.hid hU8
  have HG8 := Lib.hid hg8
  clear x8 e8 f8 h8 q8 hU8 hg8
  go_upto_region 9 with fail
  rw [← HU8.out] at k0 k1 j0 j1 ⊢
  try rw [← HG8.out]
  clear HU8 HG8
  go_wp2_with fail
  refine (MX.out _ BB8.out).mono ?_
  rintro e U9 ⟨rfl, f9⟩
  have BB9 : Hid (Below W6.heap.size W6 U9) := Below.trans BB8.out (f9.mono (Below.size BB8.out))
  replace XX5 := Lib.hid (carry XX5.out f9)
  replace QQ5 := Lib.hid (ZV.below QQ5.out f9)
  replace XX6 := Lib.hid (carry XX6.out f9)
  replace QQ6 := Lib.hid (ZV.below QQ6.out f9)
  replace XX7 := Lib.hid (carry XX7.out f9)
  replace QQ7 := Lib.hid (ZV.below QQ7.out f9)
  replace XX8 := Lib.hid (carry XX8.out f9)
  replace QQ8 := Lib.hid (ZV.below QQ8.out f9)
  clear k0 k1 j0 j1 f9
  obtain ⟨k0, k1⟩ := (TX6.out.below BB9.out).box.cells
  obtain ⟨j0, j1⟩ := (TY6.out.below BB9.out).box.cells
  go_wp2_with fail
  refine (NXX.out _ BB9.out).mono ?_
  rintro e U10 ⟨rfl, f10⟩
  have BB10 : Hid (Below W6.heap.size W6 U10) := Below.trans BB9.out (f10.mono (Below.size BB9.out))
  replace XX5 := Lib.hid (carry XX5.out f10)
  replace QQ5 := Lib.hid (ZV.below QQ5.out f10)
  replace XX6 := Lib.hid (carry XX6.out f10)
  replace QQ6 := Lib.hid (ZV.below QQ6.out f10)
  replace XX7 := Lib.hid (carry XX7.out f10)
  replace QQ7 := Lib.hid (ZV.below QQ7.out f10)
  replace XX8 := Lib.hid (carry XX8.out f10)
  replace QQ8 := Lib.hid (ZV.below QQ8.out f10)
  clear k0 k1 j0 j1 f10
  obtain ⟨k0, k1⟩ := (TX6.out.below BB10.out).box.cells
  obtain ⟨j0, j1⟩ := (TY6.out.below BB10.out).box.cells
  go_wp2_with fail
  refine (MY.out _ BB10.out).mono ?_
  rintro e U11 ⟨rfl, f11⟩
  have BB11 : Hid (Below W6.heap.size W6 U11) := Below.trans BB10.out (f11.mono (Below.size BB10.out))
  replace XX5 := Lib.hid (carry XX5.out f11)
  replace QQ5 := Lib.hid (ZV.below QQ5.out f11)
  replace XX6 := Lib.hid (carry XX6.out f11)
  replace QQ6 := Lib.hid (ZV.below QQ6.out f11)
  replace XX7 := Lib.hid (carry XX7.out f11)
  replace QQ7 := Lib.hid (ZV.below QQ7.out f11)
  replace XX8 := Lib.hid (carry XX8.out f11)
  replace QQ8 := Lib.hid (ZV.below QQ8.out f11)
  clear k0 k1 j0 j1 f11
  obtain ⟨k0, k1⟩ := (TX6.out.below BB11.out).box.cells
  obtain ⟨j0, j1⟩ := (TY6.out.below BB11.out).box.cells
  go_wp2_with fail
  refine (NY.out _ BB11.out).mono ?_
  rintro e U12 ⟨rfl, f12⟩
  have BB12 : Hid (Below W6.heap.size W6 U12) := Below.trans BB11.out (f12.mono (Below.size BB11.out))
  replace XX5 := Lib.hid (carry XX5.out f12)
  replace QQ5 := Lib.hid (ZV.below QQ5.out f12)
  replace XX6 := Lib.hid (carry XX6.out f12)
  replace QQ6 := Lib.hid (ZV.below QQ6.out f12)
  replace XX7 := Lib.hid (carry XX7.out f12)
  replace QQ7 := Lib.hid (ZV.below QQ7.out f12)
  replace XX8 := Lib.hid (carry XX8.out f12)
  replace QQ8 := Lib.hid (ZV.below QQ8.out f12)
  clear k0 k1 j0 j1 f12
  obtain ⟨k0, k1⟩ := (TX6.out.below BB12.out).box.cells
  obtain ⟨j0, j1⟩ := (TY6.out.below BB12.out).box.cells
  obtain ⟨p5, p5', p5'', -, -, -⟩ := at_block XX5.out
  obtain ⟨p6, p6', p6'', -, -, -⟩ := at_block XX6.out
  obtain ⟨p7, p7', p7'', -, -, -⟩ := at_block XX7.out
  obtain ⟨p8, p8', p8'', -, -, -⟩ := at_block XX8.out
  go_wp2_with fail
  refine (same_z QQ5.out QQ6.out rfl).mono ?_
  rintro e V1 ⟨rfl, v1⟩
  obtain ⟨p7, p7', p7'', -, -, -⟩ := at_block (carry XX7.out v1)
  obtain ⟨p8, p8', p8'', -, -, -⟩ := at_block (carry XX8.out v1)
  go_wp2_with fail
  refine (same_z (ZV.below QQ7.out v1) (ZV.below QQ8.out v1) rfl).mono ?_
  rintro e V2 ⟨rfl, v2⟩
  go_wp2_with fail
  refine (awake_v _).mono ?_
  rintro e V3 ⟨rfl, v3⟩
  have FIN : Hid (Below w.heap.size w V3) := by
    have h1 := B6.out.trans (BB12.out.mono B6.out.size)
    have h2 := h1.trans (v1.mono h1.size)
    have h3 := h2.trans (v2.mono h2.size)
    exact h3.trans (v3.mono h3.size)
  clear v1 v2 v3
  go_wp2_with fail
  go_ret
  exact ⟨rfl, FIN.out⟩
end Go.Proofs.Ytjmogoijnkcnpaa.T14
