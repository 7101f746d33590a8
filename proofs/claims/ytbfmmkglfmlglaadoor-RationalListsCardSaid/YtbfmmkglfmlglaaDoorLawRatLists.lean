import Derived.Test.YtbfmmkglfmlglaaDoorLists
import Derived.Test.YtbfmmkglfmlglaaDoorAwake2
/- RationalLists: the walk. -/
namespace Go.Proofs.YtbfmmkglfmlglaaDoor
open Go.RowKit

theorem rev_take (us : List RV) (i j : Nat) (h : j + i + 1 = us.length) : us.reverse.take (i + 1) = us.reverse.take i ++ [us.getD j RV.nil] := by
  have hi : i < us.reverse.length := by rw [List.length_reverse]; omega
  rw [List.take_add_one, List.getElem?_eq_getElem hi, List.getElem_reverse]
  have e : us.length - 1 - i = j := by omega
  simp [List.getD, e, show j < us.length by omega]

set_option maxHeartbeats 20000000 in
set_option maxRecDepth 100000 in
theorem RationalLists_any (ao : Option Addr) (cap : Nat) (rs : List RV) (w : World) (h : RdR w ao cap rs) (hr : ∀ r ∈ rs, Raw w r) (htab : Tab w) :
    Calls Tryd.prog 3 #[.slice ao rs.length cap] w fun e w' => e = .returned (.bool true) ∧ Below w.heap.size w w' := by
  obtain ⟨i0, hi, hz0, hz1, hz2⟩ := info_partsr infoRatio
  have HS := Lib.hid (Smalls_any ao cap rs w h hr)
  have HTab := Lib.hid htab
  clear h hr htab
  go_enter Tryd.func3, Tryd.ntmps3
  go_wp2_with fail
  refine (HS.out).mono ?_; rintro e W1 ⟨ro, rc, us, rfl, hN30, hrd, hus, b1⟩
  obtain ⟨f, hf⟩ : ∃ f : RV → Rat, ∀ u ∈ us, Is W1 u (f u) := by
    classical
    refine ⟨fun u => if hu : u ∈ us then Classical.choose (hus u hu) else 0, fun u hu => ?_⟩
    have := Classical.choose_spec (hus u hu)
    simpa [hu] using this
  obtain ⟨n, hn⟩ : ∃ n, n = us.length := ⟨_, rfl⟩
  have a1 := hrd.1
  have a2 := hrd.2.1
  rw [← hn] at a1 hN30 ⊢
  have HH := Lib.hid hrd
  have HF : Hid (∀ u ∈ us, Is W1 u (f u)) := hf
  have HN := Lib.hid hn
  have HB1 := Lib.hid b1
  clear HS hus hf hrd hn b1
  go_wp2_with fail
  go_loopw [3, 10] (fun s3 s10 wr => ∃ (i : Nat) (vs : List RV) (v : Value), i ≤ n ∧ s10 = .int .i64 (i : Int) ∧ v = s3 ∧ Hid (vs = us.reverse.take i) ∧ Hid (wr.ownsRow W1.heap.size 27 3 v i (rvs vs)) ∧ Hid (Below W1.heap.size W1 wr)) (fun _ s10 _ => n - (intOf s10).toNat)
  case atStart => exact ⟨0, [], _, by omega, rfl, rfl, by unfold Hid; simp, World.ownsRow_nil _ _ _ _, Below.refl _ _⟩
  case round =>
    obtain ⟨i, vs, v, hin, rfl, rfl, hvs, hown, hbl⟩ := hrel
    by_cases hlt : i < n
    · have hlt2 : (i : Int) < (n : Int) := by omega
      obtain ⟨j, hj⟩ : ∃ j, j + i + 1 = n := ⟨n - 1 - i, by omega⟩
      have hjj : (n : Int) - 1 - (i : Int) = (j : Int) := by omega
      obtain ⟨b, o, rfl, hat⟩ := HH.out.at (by rw [← HN.out]; omega)
      obtain ⟨r, hre⟩ : ∃ r, r = us.getD j RV.nil := ⟨_, rfl⟩
      obtain ⟨c0, c1, c2⟩ := (hat j (by rw [← HN.out]; omega)).below hbl.out
      rw [← hre] at c0 c1 c2
      have HE : Hid (us.reverse.take (i + 1) = vs ++ [r]) := by unfold Hid; rw [hvs.out, hre]; exact rev_take us i j (by rw [← HN.out]; omega)
      clear hat hre
      have hwz : W1.heap.size ≤ wr.heap.size := hbl.out.size
      go_wp2_with (at_builtin; refine wpList_append_own _ rfl _ _ 22 rfl W1.heap.size 27 i0 (.agg #[.bool false, .slice none 0 0, .slice none 0 0]) 3 56 Tryd.underlying22 hi hz0 hz1 hz2 rfl (by omega) _ _ _ rfl (hown.out.alloc _) ⟨wr.heap.size, 0, none⟩ 1 1 [.bool r.s, .slice r.ao r.n r.ca, .slice r.bo r.m r.cb] rfl rfl (three_cell _ _ _ _ _) (by intro u hu; simp at hu; rcases hu with rfl | rfl | rfl <;> rfl) (by unfold maxLen; omega) (by omega) (by simp; omega) ?_; intro v3 w3 hown3 hgr3 _)
      have hA := below_new wr (.cells #[.bool r.s, .slice r.ao r.n r.ca, .slice r.bo r.m r.cb] 27)
      have HB3 : Hid (Below W1.heap.size W1 w3) := hbl.out.trans ((hA.mono hwz).trans (rows_below (hown.out.alloc _) (Nat.le_refl _) (by simp; omega) hgr3))
      have HO3 : Hid (w3.ownsRow W1.heap.size 27 3 v3 (i + 1) (rvs (vs ++ [r]))) := by unfold Hid; rw [rvs_append]; exact hown3
      have HV3 : Hid (vs ++ [r] = us.reverse.take (i + 1)) := HE.out.symm
      clear hown3 hgr3 hA c0 c1 c2
      go_wp2_with fail
      go_roundw
      case rel => exact ⟨i + 1, _, _, by omega, by go_num, rfl, HV3, HO3, HB3⟩
      case measure => simp [intOf]; omega
    · obtain rfl : i = n := by omega
      have hlt2 : ¬ (i : Int) < (i : Int) := by omega
      obtain ⟨bo, bc, rfl, hbd⟩ := RdR.of_row hown.out
      have hv : vs = us.reverse := by rw [hvs.out, HN.out, ← List.length_reverse, List.take_length]
      have hvl : vs.length = i := by rw [hv, List.length_reverse, HN.out]
      have hd := HH.out.below hbl.out
      have hff : ∀ u ∈ us, Is wr u (f u) := fun u hu => (HF.out u hu).below hbl.out
      have hfv : ∀ u ∈ vs, Is wr u (f u) := fun u hu => hff u (by rw [hv] at hu; simpa using hu)
      have ht : tot f vs = tot f us := by rw [hv]; exact tot_reverse f us
      have hul : us.length = i := HN.out.symm
      have HB := Lib.hid (HB1.out.trans (hbl.out.mono HB1.out.size))
      have S0 := Sum_q f ro rc us wr hd (by omega) hff
      have S1 : Hid (∀ w', Below wr.heap.size wr w' → Calls Tryd.prog 8 #[.slice ro i rc] w' (MakesQ (tot f us) (kk i) w')) := fun w' g => by
        have := rSum_q f ro rc us w' (hd.below g) (by omega) (fun u hu => (hff u hu).below g)
        rwa [hul] at this
      have S2 : Hid (∀ w', Below wr.heap.size wr w' → Calls Tryd.prog 6 #[.slice bo i bc] w' (MakesQ (tot f us) (kk i) w')) := fun w' g => by
        have := Sum_q f bo bc vs w' (hbd.below g) (by omega) (fun u hu => (hfv u hu).below g)
        rwa [hvl, ht] at this
      rw [hul] at S0
      rw [hvl]
      obtain ⟨q, hq⟩ : ∃ q, q = tot f us := ⟨_, rfl⟩
      rw [← hq] at S0 S1 S2
      have HS0 := Lib.hid S0
      clear hbd hv hd hff hfv ht hq hown hvs S0 HH HF HN hul
      go_wp2_with fail
      refine (HS0.out).mono ?_; rintro e W5 ⟨s5, a5, n5, c5, o5, m5, d5, rfl, cq5, b5⟩
      have n5x := below_new W5 (.cells #[.bool s5, .slice a5 n5 c5, .slice o5 m5 d5] 27)
      have B6 := b5.trans (n5x.mono b5.size)
      have y6 := heap_alloc_new W5 (.cells #[.bool s5, .slice a5 n5 c5, .slice o5 m5 d5] 27)
      have q6 := cq5.below n5x
      obtain ⟨W6, hW6⟩ : ∃ W6, W6 = W5.alloc (.cells #[.bool s5, .slice a5 n5 c5, .slice o5 m5 d5] 27) := ⟨_, rfl⟩
      rw [← hW6] at B6 y6 q6
      clear n5x cq5 b5 HS0
      have K : Hid (∀ w', Below W6.heap.size W6 w' → w'.cell? ⟨W5.heap.size, 0, none⟩ = some (.bool s5) ∧ w'.cell? ⟨W5.heap.size, 1, none⟩ = some (.slice a5 n5 c5) ∧ w'.cell? ⟨W5.heap.size, 2, none⟩ = some (.slice o5 m5 d5) ∧ Below W6.heap.size W6 w') := fun w' hb => by
        obtain ⟨k0, k1, k2, _⟩ := at_block (carry y6 hb)
        exact ⟨k0, k1, k2, hb⟩
      have KB : Hid (∀ w', Below W6.heap.size W6 w' → Below wr.heap.size wr w') := fun w' hb => B6.trans (hb.mono B6.size)
      have K5 : Hid (∀ w', Below W6.heap.size W6 w' → CQ wr.heap.size w' s5 a5 n5 c5 o5 m5 d5 q (kk i)) := fun w' hb => q6.below hb
      have HTW : Hid (∀ w', Below W6.heap.size W6 w' → Tab w') := fun w' hb => HTab.out.below (HB.out.trans ((KB.out w' hb).mono HB.out.size))
      obtain ⟨k0, k1, k2, _, _, _⟩ := at_block y6
      clear B6 y6 q6 HTab
      go_wp2_with fail
      rw [← hW6]
      clear hW6
      go_region_held3 (fun w' => w'.cell? ⟨W5.heap.size, 0, none⟩ = some (.bool s5) ∧ w'.cell? ⟨W5.heap.size, 1, none⟩ = some (.slice a5 n5 c5) ∧ w'.cell? ⟨W5.heap.size, 2, none⟩ = some (.slice o5 m5 d5) ∧ Below W6.heap.size W6 w')
        (first | exact K.out _ (Below.refl _ _).drew | exact K.out _ (keepB v1 (by assumption) (Nat.le_refl _)) | exact K.out _ (keepB v2 (by assumption) (Nat.le_refl _)) | exact K.out _ (keepB v3 (by assumption) (Nat.le_refl _)) | exact K.out _ (keepB v4 (by assumption) (Nat.le_refl _)) | exact K.out _ (keepB v5 (by assumption) (Nat.le_refl _)))
        (first
          | (go_at_call_of 7 (Value.agg #[.bool s3, .slice a3 n3 c3, .slice o3 m3 d3]); go_split_ands; refine (Same_q cr3 (K5.out _ (by assumption)) rfl).mono ?_; rintro e V4 ⟨rfl, v4⟩)
          | (go_at_call 8; go_split_ands; refine (S1.out _ (KB.out _ (by assumption))).mono ?_; rintro e V1 ⟨s1, a1', n1, c1, o1, m1, d1, rfl, cr1, v1⟩)
          | (go_at_call_of 7 (Value.agg #[.bool s5, .slice a5 n5 c5, .slice o5 m5 d5]); go_split_ands; refine (Same_q (K5.out _ (by assumption)) cr1 rfl).mono ?_; rintro e V2 ⟨rfl, v2⟩)
          | (go_at_call 6; go_split_ands; refine (S2.out _ (KB.out _ (by assumption))).mono ?_; rintro e V3 ⟨s3, a3, n3, c3, o3, m3, d3, rfl, cr3, v3⟩)
          | (go_at_call 9; go_split_ands; refine (awake2_any _ (HTW.out _ (by assumption))).mono ?_; rintro e V5 ⟨rfl, v5⟩; have BV : Below W6.heap.size W6 V5 := keepB v5 (by assumption) (Nat.le_refl _)))
      all_goals
        go_wp2_with fail
        go_ret
        exact ⟨rfl, HB.out.trans ((KB.out _ BV).mono HB.out.size)⟩
end Go.Proofs.YtbfmmkglfmlglaaDoor
