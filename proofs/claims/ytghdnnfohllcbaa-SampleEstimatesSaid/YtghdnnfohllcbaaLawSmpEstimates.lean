import Derived.Test.YtghdnnfohllcbaaEst2
import Derived.Test.YtghdnnfohllcbaaEst3
import Derived.Test.YtghdnnfohllcbaaEstA
import Derived.Test.YtghdnnfohllcbaaSmpAw
/- SampleEstimates: the walk. -/
namespace Go.Proofs.Ytghdnnfohllcbaa
open Go.RowKit Go.Sort C6

/-- two rows lie apart -/
def Apt (v p : Value) : Prop := ∀ k, v.ownBlock = some k → p.ownBlock = some k → False
theorem gb_row {A w w' : World} {B base n size : Nat} {e : TypeId} {v : Value} {xs : List Value} (h : A.grownBy w (some B)) (ho : w.ownsRow base e size v n xs) (hb : A.heap.size ≤ base) (g : w.grownBy w' v.ownBlock) : A.grownBy w' (some B) :=
  ⟨g.os.trans h.os, g.tape.trans h.tape, g.output.trans h.output, Nat.le_trans h.size g.size, fun b hlt hne => (g.block b (Nat.lt_of_lt_of_le hlt h.size) (fun q => by have := (ho.lt b q.symm).1; omega)).trans (h.block b hlt hne)⟩

set_option maxHeartbeats 16000000 in
set_option maxRecDepth 100000 in
theorem SampleEstimates_any (ao bo : Option Addr) (ca cb : Nat) (us vs : List RV) (to' : Option Addr) (ts : List Int) (tc : Nat) (w : World) (hu : RdR w ao ca us) (hur : ∀ r ∈ us, Raw w r) (hv : RdR w bo cb vs) (hvr : ∀ r ∈ vs, Raw w r) (ht : C6.RdZ w to' tc ts) :
    Calls Try.prog 6 #[.slice ao us.length ca, .slice bo vs.length cb, .slice to' ts.length tc] w fun e w' => e = .returned (.bool true) ∧ Below w.heap.size w w' := by
  obtain ⟨i0, hi, hz0, hz1, hz2⟩ := info_partsr infoRatio
  have S1 := Lib.hid (Smalls8_any ao ca us w hu hur)
  have S2 : Hid (∀ w', Below w.heap.size w w' → Calls Try.prog 8 #[.slice bo vs.length cb, .int .i64 8] w' fun e w2 => ∃ ro rc us, e = .returned (.slice ro us.length rc) ∧ us.length ≤ 8 ∧ RdR w2 ro rc us ∧ (∀ u ∈ us, ∃ q, Is w2 u q) ∧ Below w'.heap.size w' w2) := fun w' hb => Smalls8_any bo cb vs w' (hv.below hb) (fun r hr => (hvr r hr).below hb)
  have HTS := Lib.hid ht
  obtain ⟨nu, hnu⟩ : ∃ n, n = us.length := ⟨_, rfl⟩
  obtain ⟨nv, hnv⟩ : ∃ n, n = vs.length := ⟨_, rfl⟩
  unfold Hid at S1 S2
  rw [← hnu] at S1 ⊢
  rw [← hnv] at S2 ⊢
  have S1 := Lib.hid S1
  have S2 := Lib.hid S2
  clear hu hur hv hvr ht hnu hnv
  go_enter Try.func6, Try.ntmps6
  go_wp2_with fail
  refine S1.out.mono ?_; rintro e W1 ⟨ro, rc, us1, rfl, hl1, hrd1, hus1, b1⟩
  obtain ⟨xs, hx⟩ := Ls.of_all hus1
  obtain ⟨n1, hn1⟩ : ∃ n, n = us1.length := ⟨_, rfl⟩
  rw [← hn1]
  have HB1 := Lib.hid b1
  have HR1 := Lib.hid hrd1
  have HX1 := Lib.hid hx
  have HN1 := Lib.hid hn1
  have HL1 := Lib.hid hl1
  clear S1 hrd1 hus1 hx hn1 hl1 b1
  go_wp2_with fail
  refine (S2.out _ HB1.out).mono ?_; rintro e W2 ⟨so, sc, vs1, rfl, hl2, hrd2, hvs2, b2⟩
  obtain ⟨ys, hy⟩ := Ls.of_all hvs2
  obtain ⟨n2, hn2⟩ : ∃ n, n = vs1.length := ⟨_, rfl⟩
  obtain ⟨E, hE⟩ : ∃ E, E = estE xs ys := ⟨_, rfl⟩
  obtain ⟨Q, hQ⟩ : ∃ Q, Q = estQ xs ys := ⟨_, rfl⟩
  have E1 : Hid (∀ w', Below W2.heap.size W2 w' → Calls Try.prog 30 #[.slice ro n1 rc, .slice so n2 sc] w' (EstPost E Q w')) := fun w' hb => by
    rw [HN1.out, hn2, hE, hQ]; exact Estimate_v xs ys ro so rc sc us1 vs1 w' ((HR1.out.below b2).below hb) (hrd2.below hb) ((HX1.out.below b2).below hb) (hy.below hb) HL1.out hl2
  have E2 : Hid (∀ w', Below W2.heap.size W2 w' → Calls Try.prog 31 #[.slice ro n1 rc, .slice so n2 sc] w' (EstPost E Q w')) := fun w' hb => by
    rw [HN1.out, hn2, hE, hQ]; exact rEstimate_v xs ys ro so rc sc us1 vs1 w' ((HR1.out.below b2).below hb) (hrd2.below hb) ((HX1.out.below b2).below hb) (hy.below hb) HL1.out hl2
  rw [← hn2]
  have HB2 : Hid (Below w.heap.size w W2) := HB1.out.trans (b2.mono HB1.out.size)
  clear S2 hrd2 hvs2 hy hn2 hl2 b2 HR1 HX1 HN1 HL1 HB1 hE hQ
  obtain ⟨W3, hW3⟩ : ∃ W, W = W2.alloc (.cells #[.slice to' ts.length tc, .int .i64 0] 26) := ⟨_, rfl⟩
  obtain ⟨B, hB⟩ : ∃ B, B = W2.heap.size := ⟨_, rfl⟩
  have b3 : Below W2.heap.size W2 W3 := by rw [hW3]; exact below_new _ _
  have T3 : Hid (Tap W3 B to' ts.length tc 0) := by rw [hW3, hB]; exact Tap.new W2 to' ts.length tc
  have R3 : Hid (C6.RdZ W3 to' tc ts) := HTS.out.below (HB2.out.trans (b3.mono HB2.out.size))
  have hTB : Hid (0 < (intz ts).length → ∀ b o, to' = some ⟨b, o, none⟩ → b < B) := fun h0 b o e => by rw [hB]; exact Nat.lt_of_lt_of_le (HTS.out.lt h0 b o e) HB2.out.size
  have s3 : Hid (W3.heap.size = B + 1) := by unfold Hid; rw [hW3, hB]; exact World.size_alloc _ _
  have HBB : Hid (B = W2.heap.size) := hB
  have B3 := Lib.hid b3
  clear b3 HTS
  go_upto_region 4 with fail
  rw [← hW3]
  try rw [← hB]
  clear hW3 hB
  go_wp2_with fail
  refine (Next_v B to' tc ts 0 6 _ T3.out R3.out (by omega) (by omega) (by omega) 6 rfl).mono ?_; rintro e W4 ⟨r1, rfl, hr1, g4, z4, t4⟩
  have R4 := Lib.hid (rd_gbE R3.out hTB.out (by rw [s3.out]; omega) g4)
  have G4 : Hid (Below W2.heap.size W2 W4) := B3.out.trans (row_gb g4 B3.out.size (fun k e => by cases e; rw [HBB.out]; exact Nat.le_refl _))
  have s4 : Hid (W4.heap.size = B + 1) := by unfold Hid; rw [z4, s3.out]
  have T4 := Lib.hid t4
  clear T3 R3 B3 s3 g4 z4 t4
  obtain ⟨N, hN⟩ : ∃ x : Nat, x = 1 + r1 := ⟨_, rfl⟩
  have hN6 : N ≤ 6 := by omega
  have hNi : 1 + (r1 : Int) = (N : Int) := by omega
  have hNw : IntKind.i64.wrap (N : Int) = (N : Int) := IntWalk.i64_in _ (by omega)
  clear hN hr1
  obtain ⟨M, hM⟩ : ∃ M, M = W4.heap.size := ⟨_, rfl⟩
  have HM := Lib.hid hM
  clear hM
  go_wp2_with fail
  clear hNi hNw
  go_loopw [28, 8, 9] (fun s28 s8 s9 wr => ∃ (i : Nat) (v p : Value) (es fs : List RV) (xs ys : List Rat), i ≤ N ∧ s28 = .int .i64 (i : Int) ∧ v = s8 ∧ p = s9 ∧ Hid (wr.ownsRow M 33 3 v i (rvs es)) ∧ Hid (wr.ownsRow M 33 3 p i (rvs fs)) ∧ Hid (Lc M wr es xs 2) ∧ Hid (Lc M wr fs ys 2) ∧ Hid (Apt v p) ∧ Hid (Tap wr B to' ts.length tc (1 + 3 * i)) ∧ Hid (W4.grownBy wr (some B))) (fun s28 _ _ _ => N - (intOf s28).toNat)
  case atStart => exact ⟨0, _, _, [], [], [], [], by omega, rfl, rfl, rfl, World.ownsRow_nil _ _ _ _, World.ownsRow_nil _ _ _ _, (show Lc M _ [] [] 2 from Lc.nil _ _ _), (show Lc M _ [] [] 2 from Lc.nil _ _ _), (show Apt _ _ from fun k h _ => by cases h), T4.out, World.grownBy.refl _ _⟩
  case round =>
    obtain ⟨i, v, p, es, fs, xs', ys', hiN, rfl, rfl, rfl, hov, hop, hlv, hlp, hap, htp, hgb⟩ := hrel
    have hMB : Hid (B < M) := by unfold Hid; rw [HM.out, s4.out]; omega
    have hsz : Hid (M ≤ wr.heap.size) := by unfold Hid; rw [HM.out]; exact hgb.out.size
    by_cases hlt : i < N
    · have hlt2 : (i : Int) < (N : Int) := by omega
      have hRd := Lib.hid (rd_gbE R4.out hTB.out (by rw [s4.out]; omega) hgb.out)
      go_upto_region 6 with fail
      go_wp2_with fail
      refine (Signed_v B to' tc ts (1 + 3 * i) _ htp.out hRd.out hTB.out (by omega)).mono ?_; rintro e w5 ⟨s5, a5, l5, c5, o5, m5, d5, q5, rfl, cq5, g5, t5⟩
      have hsz5 : Hid (M ≤ w5.heap.size) := Nat.le_trans hsz.out g5.size
      have hov5 := Lib.hid (hov.out.kept g5 (C6.row_block hov.out hMB.out))
      have hop5 := Lib.hid (hop.out.kept g5 (C6.row_block hop.out hMB.out))
      have hlv5 := Lib.hid (hlv.out.gb hMB.out g5)
      have hlp5 := Lib.hid (hlp.out.gb hMB.out g5)
      have hcq5 := Lib.hid (cq5.mono hsz.out)
      have hgb5 := Lib.hid (gb_trans hgb.out g5)
      have htp5 := Lib.hid t5
      have hm5 : M ≤ w5.heap.size := hsz5.out
      clear hov hop hlv hlp htp hgb hRd cq5 g5 t5 hsz
      go_wp2_with (at_builtin; refine wpList_append_lies _ rfl _ _ 22 rfl M 33 i0 (.agg #[.bool false, .slice none 0 0, .slice none 0 0]) 3 56 Try.underlying22 hi hz0 hz1 hz2 rfl (by omega) _ _ _ rfl (hov5.out.alloc _) ⟨w5.heap.size, 0, none⟩ 1 1 [.bool s5, .slice a5 l5 c5, .slice o5 m5 d5] rfl rfl (three_cell _ _ _ _ _) (by intro u hu; simp at hu; rcases hu with rfl | rfl | rfl <;> rfl) (by omega) (by unfold maxLen; omega) (by omega) (by simp; omega) (w5.heap.size + 1) (by simp) ?_; intro g8 c8 w8 hown8 hgr8 hat8 hlt8)
      have nA := below_new w5 (.cells #[.bool s5, .slice a5 l5 c5, .slice o5 m5 d5] 33)
      have HOV8 : Hid (w8.ownsRow M 33 3 (.slice (some ⟨g8, 0, none⟩) (i + 1) c8) (i + 1) (rvs (es ++ [⟨s5, a5, l5, c5, o5, m5, d5⟩]))) := by unfold Hid; rw [rvs_append]; exact hown8
      have hop8 := Lib.hid ((hop5.out.alloc (.cells #[.bool s5, .slice a5 l5 c5, .slice o5 m5 d5] 33)).kept hgr8 (by
        cases hk : p.ownBlock with
        | none => exact .inl rfl
        | some k => exact .inr (fun q => hap.out k q.symm hk)))
      have hlv8 : Hid (Lc M w8 (es ++ [⟨s5, a5, l5, c5, o5, m5, d5⟩]) (xs' ++ [q5]) 2) := ((hlv5.out.below nA).keepRow (hov5.out.alloc _) hgr8).snoc ((hcq5.out.below nA).keepRow3 (hov5.out.alloc _) hgr8)
      have hlp8 := Lib.hid ((hlp5.out.below nA).keepRow (hov5.out.alloc _) hgr8)
      have hap8 : Hid (Apt (.slice (some ⟨g8, 0, none⟩) (i + 1) c8) p) := fun k e1 e2 => by
        have ek : g8 = k := Option.some.inj e1
        subst ek
        rcases hat8 with h | h
        · exact hap.out _ h e2
        · have := (hop5.out.lt _ e2).2; omega
      have htp8 := Lib.hid ((htp5.out.alloc (.cells #[.bool s5, .slice a5 l5 c5, .slice o5 m5 d5] 33)).grown hgr8 (fun q => by have := (hov5.out.lt _ q.symm).1; have := hMB.out; omega))
      have hgb8 := Lib.hid (gb_row (gb_trans hgb5.out (World.grownBy_alloc w5 (.cells #[.bool s5, .slice a5 l5 c5, .slice o5 m5 d5] 33) (some B))) (hov5.out.alloc _) (by rw [HM.out]; exact Nat.le_refl _) hgr8)
      have hsz8 : Hid (M ≤ w8.heap.size) := Nat.le_trans (Nat.le_trans hm5 nA.size) hgr8.size
      have hRd8 := Lib.hid (rd_gbE R4.out hTB.out (by rw [s4.out]; omega) hgb8.out)
      clear nA hov5 hop5 hlv5 hlp5 hcq5 hgb5 htp5 hsz5 hown8 hgr8 hat8 hap hm5
      go_wp2_with fail
      refine (Next_v B to' tc ts (1 + 3 * i + 2) 6 _ htp8.out hRd8.out (by omega) (by omega) (by omega) 6 rfl).mono ?_; rintro e w9 ⟨r9, rfl, hr9, g9, z9, t9⟩
      have hov9 := Lib.hid (HOV8.out.kept g9 (C6.row_block HOV8.out hMB.out))
      have hop9 := Lib.hid (hop8.out.kept g9 (C6.row_block hop8.out hMB.out))
      have hlv9 := Lib.hid (hlv8.out.gb hMB.out g9)
      have hlp9 := Lib.hid (hlp8.out.gb hMB.out g9)
      have hgb9 := Lib.hid (gb_trans hgb8.out g9)
      have htp9 := Lib.hid t9
      have hsz9 : Hid (M ≤ w9.heap.size) := Nat.le_trans hsz8.out g9.size
      clear HOV8 hop8 hlv8 hlp8 hgb8 htp8 hsz8 hRd8 g9 z9 t9
      obtain ⟨y, hy⟩ : ∃ x : Nat, x = 1 + r9 := ⟨_, rfl⟩
      have hy6 : y ≤ 6 := by omega
      have hyi : 1 + (r9 : Int) = (y : Int) := by omega
      have hyw : IntKind.i64.wrap (y : Int) = (y : Int) := IntWalk.i64_in _ (by omega)
      obtain ⟨qy, hqy⟩ : ∃ q, q = rq (decide ((y : Int) < 0) != decide ((6 : Int) < 0)) (y : Int).natAbs (6 : Int).natAbs := ⟨_, rfl⟩
      have FQ : Hid (Calls Try.prog 29 #[.int .i64 (y : Int), .int .i64 6] w9 (MakesQ qy 2 w9)) := by rw [hqy]; exact mFracS (y : Int) 6 (by omega) (by omega) (by omega) (by omega) w9
      clear hy hr9 hqy
      go_wp2_with fail
      refine FQ.out.mono ?_; rintro e w10 ⟨s6, a6, l6, c6, o6, m6, d6, rfl, cq6, b6⟩
      have hov10 := Lib.hid (row_below hov9.out b6)
      have hop10 := Lib.hid (row_below hop9.out b6)
      have hlv10 := Lib.hid (hlv9.out.below b6)
      have hlp10 := Lib.hid (hlp9.out.below b6)
      have hcq10 := Lib.hid (cq6.mono hsz9.out)
      have hgb10 := Lib.hid (gb_trans hgb9.out (C6.below_gb b6 (some B)))
      have htp10 := Lib.hid (htp9.out.keep b6)
      have hm10 : M ≤ w10.heap.size := Nat.le_trans hsz9.out b6.size
      clear hov9 hop9 hlv9 hlp9 hgb9 htp9 hsz9 cq6 b6 FQ hyi hyw
      go_wp2_with (at_builtin; refine wpList_append_lies _ rfl _ _ 22 rfl M 33 i0 (.agg #[.bool false, .slice none 0 0, .slice none 0 0]) 3 56 Try.underlying22 hi hz0 hz1 hz2 rfl (by omega) _ _ _ rfl (hop10.out.alloc _) ⟨w10.heap.size, 0, none⟩ 1 1 [.bool s6, .slice a6 l6 c6, .slice o6 m6 d6] rfl rfl (three_cell _ _ _ _ _) (by intro u hu; simp at hu; rcases hu with rfl | rfl | rfl <;> rfl) (by omega) (by unfold maxLen; omega) (by omega) (by simp; omega) (w10.heap.size + 1) (by simp) ?_; intro g11 c11 w11 hown11 hgr11 hat11 hlt11)
      have nA := below_new w10 (.cells #[.bool s6, .slice a6 l6 c6, .slice o6 m6 d6] 33)
      have HOP11 : Hid (w11.ownsRow M 33 3 (.slice (some ⟨g11, 0, none⟩) (i + 1) c11) (i + 1) (rvs (fs ++ [⟨s6, a6, l6, c6, o6, m6, d6⟩]))) := by unfold Hid; rw [rvs_append]; exact hown11
      have HOV11 := Lib.hid ((hov10.out.alloc (.cells #[.bool s6, .slice a6 l6 c6, .slice o6 m6 d6] 33)).kept hgr11 (.inr (fun q => hap8.out g8 rfl q.symm)))
      have HLP11 : Hid (Lc M w11 (fs ++ [⟨s6, a6, l6, c6, o6, m6, d6⟩]) (ys' ++ [qy]) 2) := ((hlp10.out.below nA).keepRow (hop10.out.alloc _) hgr11).snoc ((hcq10.out.below nA).keepRow3 (hop10.out.alloc _) hgr11)
      have HLV11 := Lib.hid ((hlv10.out.below nA).keepRow (hop10.out.alloc _) hgr11)
      have HAP11 : Hid (Apt (.slice (some ⟨g8, 0, none⟩) (i + 1) c8) (.slice (some ⟨g11, 0, none⟩) (i + 1) c11)) := fun k e1 e2 => by
        have ek : g11 = k := Option.some.inj e2
        subst ek
        rcases hat11 with h | h
        · exact hap8.out _ e1 h
        · have := (hov10.out.lt _ e1).2; omega
      have HTP11 : Hid (Tap w11 B to' ts.length tc (1 + 3 * (i + 1))) := by
        have := (htp10.out.alloc (.cells #[.bool s6, .slice a6 l6 c6, .slice o6 m6 d6] 33)).grown hgr11 (fun q => by have := (hop10.out.lt _ q.symm).1; have := hMB.out; omega)
        rwa [show 1 + 3 * i + 2 + 1 = 1 + 3 * (i + 1) by omega] at this
      have HGB11 := Lib.hid (gb_row (gb_trans hgb10.out (World.grownBy_alloc w10 (.cells #[.bool s6, .slice a6 l6 c6, .slice o6 m6 d6] 33) (some B))) (hop10.out.alloc _) (by rw [HM.out]; exact Nat.le_refl _) hgr11)
      clear nA hov10 hop10 hlv10 hlp10 hcq10 hgb10 htp10 hown11 hgr11 hat11 hap8 hm10 hMB
      go_wp2_with fail
      go_roundw
      case rel => exact ⟨i + 1, _, _, _, _, _, _, by omega, by go_num, rfl, rfl, HOV11, HOP11, HLV11, HLP11, HAP11, HTP11, HGB11⟩
      case measure => simp [intOf]; omega
    · obtain rfl : i = N := by omega
      have hlt2 : ¬ (i : Int) < (i : Int) := by omega
      obtain ⟨vo, vc, rfl, hrv⟩ := RdR.of_row hov.out
      obtain ⟨po, pc, rfl, hrp⟩ := RdR.of_row hop.out
      have hev : es.length = i := by have := hov.out.1; rw [rvs_length] at this; omega
      have hep : fs.length = i := by have := hop.out.1; rw [rvs_length] at this; omega
      obtain ⟨E', hE'⟩ : ∃ E, E = estE xs' ys' := ⟨_, rfl⟩
      obtain ⟨Q', hQ'⟩ : ∃ Q, Q = estQ xs' ys' := ⟨_, rfl⟩
      have E3 : Hid (∀ w', Below wr.heap.size wr w' → Calls Try.prog 30 #[.slice vo i vc, .slice po i pc] w' (EstPost E' Q' w')) := fun w' hb => by
        have := Estimate_v xs' ys' vo po vc pc es fs w' (hrv.below hb) (hrp.below hb) ((hlv.out.ls).below hb) ((hlp.out.ls).below hb) (by omega) (by omega)
        rwa [hev, hep, ← hE', ← hQ'] at this
      have E4 : Hid (∀ w', Below wr.heap.size wr w' → Calls Try.prog 31 #[.slice vo i vc, .slice po i pc] w' (EstPost E' Q' w')) := fun w' hb => by
        have := rEstimate_v xs' ys' vo po vc pc es fs w' (hrv.below hb) (hrp.below hb) ((hlv.out.ls).below hb) ((hlp.out.ls).below hb) (by omega) (by omega)
        rwa [hev, hep, ← hE', ← hQ'] at this
      have G9 : Hid (Below W2.heap.size W2 wr) := G4.out.trans (row_gb hgb.out G4.out.size (fun k e => by cases e; rw [HBB.out]; exact Nat.le_refl _))
      rw [hev, hep]
      clear hrv hrp hev hep hE' hQ' hov hop hlv hlp hap htp hgb G4 R4 T4 hTB s4 HM hMB hsz
      go_wp2_with fail
      refine (E1.out _ G9.out).mono ?_; rintro e X9 ⟨k9, s9, a9, n9, c9, o9, m9, d9, rfl, cq9, b9⟩
      obtain ⟨Y9, hY9⟩ : ∃ W, W = X9.alloc (.cells #[.bool s9, .slice a9 n9 c9, .slice o9 m9 d9] 33) := ⟨_, rfl⟩
      obtain ⟨g9, hg9⟩ : ∃ g, g = X9.heap.size := ⟨_, rfl⟩
      have bb9 : Below X9.heap.size X9 Y9 := by rw [hY9]; exact below_new _ _
      have XX9 : Hid (Y9.heap[g9]? = some (.cells #[.bool s9, .slice a9 n9 c9, .slice o9 m9 d9] 33 (0, 0))) := by rw [hY9, hg9]; exact heap_alloc_new _ _
      have CC9 := Lib.hid (cq9.below bb9)
      have bs9 := b9.trans (bb9.mono b9.size)
      have BR9 : Hid (Below wr.heap.size wr Y9) := bs9
      clear cq9 b9 bb9 bs9
      go_upto_region 10 with fail
      rw [← hY9]
      try rw [← hg9]
      clear hY9 hg9
      go_wp2_with fail
      refine (E2.out _ (G9.out.trans (BR9.out.mono G9.out.size))).mono ?_; rintro e X10 ⟨k10, s10, a10, n10, c10, o10, m10, d10, rfl, cq10, b10⟩
      obtain ⟨Y10, hY10⟩ : ∃ W, W = X10.alloc (.cells #[.bool s10, .slice a10 n10 c10, .slice o10 m10 d10] 33) := ⟨_, rfl⟩
      obtain ⟨g10, hg10⟩ : ∃ g, g = X10.heap.size := ⟨_, rfl⟩
      have bb10 : Below X10.heap.size X10 Y10 := by rw [hY10]; exact below_new _ _
      have XX10 : Hid (Y10.heap[g10]? = some (.cells #[.bool s10, .slice a10 n10 c10, .slice o10 m10 d10] 33 (0, 0))) := by rw [hY10, hg10]; exact heap_alloc_new _ _
      have CC10 := Lib.hid (cq10.below bb10)
      have bs10 := b10.trans (bb10.mono b10.size)
      have BR10 : Hid (Below wr.heap.size wr Y10) := BR9.out.trans (bs10.mono BR9.out.size)
      have XX9 := Lib.hid (carry XX9.out bs10)
      have CC9 := Lib.hid (CC9.out.below bs10)
      clear cq10 b10 bb10 bs10
      go_upto_region 11 with fail
      rw [← hY10]
      try rw [← hg10]
      clear hY10 hg10
      go_wp2_with fail
      refine (E3.out _ BR10.out).mono ?_; rintro e X11 ⟨k11, s11, a11, n11, c11, o11, m11, d11, rfl, cq11, b11⟩
      obtain ⟨Y11, hY11⟩ : ∃ W, W = X11.alloc (.cells #[.bool s11, .slice a11 n11 c11, .slice o11 m11 d11] 33) := ⟨_, rfl⟩
      obtain ⟨g11, hg11⟩ : ∃ g, g = X11.heap.size := ⟨_, rfl⟩
      have bb11 : Below X11.heap.size X11 Y11 := by rw [hY11]; exact below_new _ _
      have XX11 : Hid (Y11.heap[g11]? = some (.cells #[.bool s11, .slice a11 n11 c11, .slice o11 m11 d11] 33 (0, 0))) := by rw [hY11, hg11]; exact heap_alloc_new _ _
      have CC11 := Lib.hid (cq11.below bb11)
      have bs11 := b11.trans (bb11.mono b11.size)
      have BR11 : Hid (Below wr.heap.size wr Y11) := BR10.out.trans (bs11.mono BR10.out.size)
      have XX9 := Lib.hid (carry XX9.out bs11)
      have CC9 := Lib.hid (CC9.out.below bs11)
      have XX10 := Lib.hid (carry XX10.out bs11)
      have CC10 := Lib.hid (CC10.out.below bs11)
      clear cq11 b11 bb11 bs11
      go_upto_region 12 with fail
      rw [← hY11]
      try rw [← hg11]
      clear hY11 hg11
      go_wp2_with fail
      refine (E4.out _ BR11.out).mono ?_; rintro e X12 ⟨k12, s12, a12, n12, c12, o12, m12, d12, rfl, cq12, b12⟩
      obtain ⟨Y12, hY12⟩ : ∃ W, W = X12.alloc (.cells #[.bool s12, .slice a12 n12 c12, .slice o12 m12 d12] 33) := ⟨_, rfl⟩
      obtain ⟨g12, hg12⟩ : ∃ g, g = X12.heap.size := ⟨_, rfl⟩
      have bb12 : Below X12.heap.size X12 Y12 := by rw [hY12]; exact below_new _ _
      have XX12 : Hid (Y12.heap[g12]? = some (.cells #[.bool s12, .slice a12 n12 c12, .slice o12 m12 d12] 33 (0, 0))) := by rw [hY12, hg12]; exact heap_alloc_new _ _
      have CC12 := Lib.hid (cq12.below bb12)
      have bs12 := b12.trans (bb12.mono b12.size)
      have BR12 : Hid (Below wr.heap.size wr Y12) := BR11.out.trans (bs12.mono BR11.out.size)
      have XX9 := Lib.hid (carry XX9.out bs12)
      have CC9 := Lib.hid (CC9.out.below bs12)
      have XX10 := Lib.hid (carry XX10.out bs12)
      have CC10 := Lib.hid (CC10.out.below bs12)
      have XX11 := Lib.hid (carry XX11.out bs12)
      have CC11 := Lib.hid (CC11.out.below bs12)
      clear cq12 b12 bb12 bs12
      go_upto_region 13 with fail
      rw [← hY12]
      try rw [← hg12]
      clear hY12 hg12
      have BW : Hid (Below w.heap.size w Y12) := HB2.out.trans ((G9.out.trans (BR12.out.mono G9.out.size)).mono HB2.out.size)
      obtain ⟨i0', i1', i2', _⟩ := at_block XX9.out
      obtain ⟨j0', j1', j2', _⟩ := at_block XX10.out
      go_wp2_with fail
      refine (Same_q CC9.out CC10.out rfl).mono ?_; rintro e Z1 ⟨rfl, z1⟩
      have y14 := carry XX11.out z1
      have y16 := carry XX12.out z1
      have C3 := Lib.hid (CC11.out.below z1)
      have C4 := Lib.hid (CC12.out.below z1)
      have HZ1 := Lib.hid (BW.out.trans (z1.mono BW.out.size))
      obtain ⟨p0, p1, p2, _⟩ := at_block y14
      obtain ⟨q0, q1, q2, _⟩ := at_block y16
      clear z1 y14 y16 i0' i1' i2' j0' j1' j2'
      go_wp2_with fail
      refine (Same_q C3.out C4.out rfl).mono ?_; rintro e Z2 ⟨rfl, z2⟩
      have HZ2 := Lib.hid (HZ1.out.trans (z2.mono HZ1.out.size))
      clear z2 p0 p1 p2 q0 q1 q2
      go_wp2_with fail
      refine (awake10 _).mono ?_; rintro e Z3 ⟨rfl, z3⟩
      have HZ3 := Lib.hid (HZ2.out.trans (z3.mono HZ2.out.size))
      clear z3
      go_wp2_with fail
      go_ret
      exact ⟨rfl, HZ3.out⟩
end Go.Proofs.Ytghdnnfohllcbaa
