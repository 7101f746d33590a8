import Derived.Test.YtmhjimcdiglpcaaGreatDoorTops
import Derived.Test.YtmhjimcdiglpcaaGreatDoorDrF
import Derived.Test.YtmhjimcdiglpcaaGreatDoorEst2b
import Derived.Test.YtmhjimcdiglpcaaGreatDoorRatsE
import Derived.Test.YtmhjimcdiglpcaaGreatDoorRatsD
/- TopUnbiased: the walk. -/
namespace Go.Proofs.YtmhjimcdiglpcaaGreatDoor.Dr
open Go.RowKit Go.Sort C6 SN

theorem szs_made4 {zs : List Int} (h1 : 1 ≤ zs.length) (_ : zs.length ≤ 200) (h : ∀ x ∈ zs, 1 ≤ x ∧ x ≤ 402) : szs zs = true := szs_good h1 (fun i hi => by
  have e : zs.getD i 0 = zs[i] := by simp [List.getD, hi]
  have := h _ (List.getElem_mem hi)
  rw [e]
  unfold szOk
  rw [decide_eq_true (show 1 ≤ zs[i] by omega), decide_eq_true (show zs[i] ≤ 1099511627776 by omega)]
  rfl)
set_option maxHeartbeats 64000000 in
set_option maxRecDepth 100000 in
theorem TopUnbiased_any (to' : Option Addr) (ts : List Int) (tc : Nat) (w : World) (ht : RdZ w to' tc ts) (htab : Tab w) :
    Calls Tryz.prog 3 #[.slice to' ts.length tc] w fun e w' => e = .returned (.bool true) ∧ Below w.heap.size w w' := by
  obtain ⟨r0, ri, rz0, rz1, rz2⟩ := info_partsr infoRatio
  have HRI : Hid (Tryz.prog.info? 32 = some r0 ∧ r0.zero = some (.agg #[.bool false, .slice none 0 0, .slice none 0 0]) ∧ r0.size = 3 ∧ r0.bytes = 56) := ⟨ri, rz0, rz1, rz2⟩
  clear ri rz0 rz1 rz2
  obtain ⟨W1, hW1⟩ : ∃ W, W = w.alloc (.cells #[.slice to' ts.length tc, .int .i64 0] 25) := ⟨_, rfl⟩
  obtain ⟨B, hB⟩ : ∃ B, B = w.heap.size := ⟨_, rfl⟩
  have b1 : Below w.heap.size w W1 := by rw [hW1]; exact below_new _ _
  have T1 : Tap W1 B to' ts.length tc 0 := by rw [hW1, hB]; exact Tap.new w to' ts.length tc
  have hTB : Hid (0 < (intz ts).length → ∀ b o, to' = some ⟨b, o, none⟩ → b < B) := fun h b o e => by rw [hB]; exact ht.lt h b o e
  have B1 := Lib.hid b1
  have HBB : Hid (B = w.heap.size) := hB
  have HT1 : Hid (RdZ W1 to' tc ts) := ht.below b1
  have hBl : Hid (B < W1.heap.size) := T1.lt
  have HTAB : Hid (∀ w', Below w.heap.size w w' → Tab w') := fun w' hb => htab.below hb
  have NX := Lib.hid (Next_v B to' tc ts 0 7 W1 T1 HT1.out (by omega) (by omega) (by omega) 7 rfl)
  obtain ⟨nt, hnt⟩ : ∃ n, n = ts.length := ⟨_, rfl⟩
  have HNT := Lib.hid hnt
  unfold Hid at NX
  rw [← hnt] at NX hW1 ⊢
  have NX := Lib.hid NX
  clear ht b1 T1 htab hnt
  go_enter Tryz.func3, Tryz.ntmps3
  go_wp2_with fail
  rw [← hW1]
  try rw [← hB]
  clear hW1 hB
  refine NX.out.mono ?_; rintro e w2 ⟨r1, rfl, hr1, g2, z2, t2⟩
  rw [HNT.out] at t2
  have T2 := Lib.hid t2
  have R2 := Lib.hid (rd_gbE HT1.out hTB.out (Nat.le_of_lt hBl.out) g2)
  have hB2 : Hid (B < w2.heap.size) := by unfold Hid; rw [z2]; exact hBl.out
  have HW2 : Hid (Below w.heap.size w w2) := B1.out.trans (row_gb g2 B1.out.size (fun j e => by cases e; rw [HBB.out]; exact Nat.le_refl _))
  clear g2 z2 t2 NX
  obtain ⟨N, hN⟩ : ∃ x : Nat, x = 1 + r1 := ⟨_, rfl⟩
  have hN8 : N ≤ 7 := by omega
  have hN1 : 1 ≤ N := by omega
  have hNi : 1 + (r1 : Int) = (N : Int) := by omega
  have hNw : IntKind.i64.wrap (N : Int) = (N : Int) := IntWalk.i64_in _ (by omega)
  clear hN hr1
  obtain ⟨M, hM⟩ : ∃ M, M = w2.heap.size := ⟨_, rfl⟩
  have HM := Lib.hid hM
  clear hM
  have hMB : Hid (B < M) := by unfold Hid; rw [HM.out]; exact hB2.out
  go_wp2_with fail
  clear hNi hNw
  go_loopw [28, 4, 5] (fun s28 s4 s5 wr => ∃ (n : Nat) (v u : Value) (xs : List Int) (rs : List RV) (qv : List Rat), n ≤ N ∧ s28 = .int .i64 (n : Int) ∧ v = s4 ∧ u = s5 ∧ Hid (wr.ownsRow M 2 1 v n (intz xs)) ∧ Hid (∀ x ∈ xs, 1 ≤ x ∧ x ≤ 402) ∧ Hid (wr.ownsRow M 32 3 u n (rvs rs)) ∧ Hid (Lc M wr rs qv 2) ∧ Hid (Tap wr B to' ts.length tc (1 + 4 * n)) ∧ Hid (w2.grownBy wr (some B))) (fun s28 _ _ _ => N - (intOf s28).toNat)
  case atStart => exact ⟨0, _, _, [], [], [], by omega, rfl, rfl, rfl, World.ownsRow_nil _ _ _ _, (show ∀ x ∈ ([] : List Int), _ from fun x hx => by simp at hx), World.ownsRow_nil _ _ _ _, Lc.nil _ _ _, T2.out, World.grownBy.refl _ _⟩
  case round =>
    obtain ⟨n, v, u, xs, rs, qv, hnN, rfl, rfl, rfl, hown, hxs, hownu, hlc, htp, hgb⟩ := hrel
    have hwM : M ≤ wr.heap.size := by rw [HM.out]; exact hgb.out.size
    by_cases hlt : n < N
    · have hlt2 : (n : Int) < (N : Int) := by omega
      obtain ⟨i0, hi, hz0, hz1, hz2⟩ := info_partsr infoI64
      obtain ⟨W, hW⟩ : ∃ W, W = wr := ⟨_, rfl⟩
      obtain ⟨i, hii⟩ : ∃ i, i = 1 + 4 * n := ⟨_, rfl⟩
      have hi9 : i ≤ 890 := by omega
      have HRW : Hid (RdV W to' tc (intz ts)) := by rw [hW]; exact rd_gbE R2.out hTB.out (Nat.le_of_lt hB2.out) hgb.out
      have hvb : Hid (∀ k, v.ownBlock = some k → B < k) := fun k e => by have := (hown.out.lt k e).1; have := hMB.out; omega
      have hvl : Hid (∀ k, v.ownBlock = some k → k < W.heap.size) := fun k e => by rw [hW]; exact (hown.out.lt k e).2
      have hMW : Hid (M ≤ W.heap.size) := by rw [hW]; exact hwM
      have HOW : Hid (W.ownsRow M 2 1 v n (intz xs)) := by rw [hW]; exact hown.out
      have HUW : Hid (W.ownsRow M 32 3 u n (rvs rs)) := by rw [hW]; exact hownu.out
      have HLW : Hid (Lc M W rs qv 2) := by rw [hW]; exact hlc.out
      have HTW : Hid (Tap W B to' ts.length tc i) := by rw [hW, hii]; exact htp.out
      have HGW : Hid (w2.grownBy W (some B)) := by rw [hW]; exact hgb.out
      have HUB : Hid (∀ g, u.ownBlock = some g → g ≠ B ∧ v.ownBlock ≠ some g) := fun g hg => ⟨by have := (HUW.out.lt g hg).1; have := hMB.out; omega, fun hv => rows_apart (by decide) HOW.out HUW.out g hv hg⟩
      have HNE := Lib.hid (u32_ne HTW.out HOW.out)
      have hn8 : n ≤ 8 := by omega
      have HII := Lib.hid hii
      go_upto_region 6 with fail
      rw [← hW]
      clear hW hown hownu hlc htp hgb hii hwM
      refine wp_region_any (by kernel_rfl) ?_
      refine region_ssa2 [30, 31, 32, 33, 34, 35, 36, 37, 38, 39, 40, 4] (EB B v W) (EB B v) (LsE (PM6 W B v)) (fun D f w1 => XM B to' ts.length tc i M v n xs (D 3) (D 7) (D 10) (D 11) (f 40) (f 4) w1) (fun f => rfl) (by kernel_rfl) (by kernel_rfl) ?_ ?_ ?_ ?_ (AllF.below (n := 12) ?_) ?_
      · exact ⟨rfl, rfl, rfl, Nat.le_refl _, fun _ _ _ _ => rfl⟩
      · exact ⟨HTW.out, fun _ => HOW.out, fun h => (by cases h), fun h => (by cases h), fun _ => rfl⟩
      · intro jx vx w1 w2 _ h hE; exact LsE.ext (PM6.st (by have := hMB.out; have := hMW.out; omega) hvl.out) jx vx w1 w2 h hE
      · intro w1 w2 hB hE; exact hB.trans hE
      · refine AllF.step (m := 11) (j := 1) rfl ?_ ?_
        · intro D f w1 hD hB hR hp hcl hX
          have h11 : D 11 = false := noF (hcl 11) (by kernel_rfl) hD
          have e4 : f 4 = v := hX.2.2.2.2 h11
          clear h11
          have HX := Lib.hid hX
          have HC := Lib.hid hcl
          have HB := Lib.hid hB
          have HD := Lib.hid hD
          clear hX hcl hB hD hR hp
          refine wpOp_step rfl (fun K hK => ?_)
          simp only [putAll, Act.put, List.setIfInBounds_toArray, List.set_cons_succ, List.set_cons_zero]
          go_simp
          exact hK _ _ ⟨v, (by show _ = Act.put _ (some 30) _; simp only [putAll, Act.put, List.setIfInBounds_toArray, List.set_cons_succ, List.set_cons_zero, *]; all_goals rfl), rfl, EB.refl _ _ _, HX.out⟩
        refine AllF.step (m := 10) (j := 2) rfl ?_ ?_
        · intro D f w1 hD hB hR hp hcl hX
          have hs1 : Hid (W.heap.size ≤ w1.heap.size) := hB.2.2.2.1
          have HX := Lib.hid hX
          have HC := Lib.hid hcl
          have HB := Lib.hid hB
          have HD := Lib.hid hD
          clear hX hcl hB hD hR hp
          refine wpOp_step rfl (fun K hK => ?_)
          simp only [putAll, Act.put, List.setIfInBounds_toArray, List.set_cons_succ, List.set_cons_zero]
          go_simp
          refine hK _ _ ⟨.slice (some ⟨w1.heap.size, 0, none⟩) 6 6, (by show _ = Act.put _ (some 31) _; simp only [putAll, Act.put, List.setIfInBounds_toArray, List.set_cons_succ, List.set_cons_zero, *]; all_goals rfl), ⟨w1.heap.size, rfl, hs1.out, heap_alloc_new _ _⟩, EB.of_below (below_new _ _), ?_⟩
          exact XM.below HX.out (below_new _ _)
        refine AllF.step (m := 9) (j := 3) rfl ?_ ?_
        · intro D f w1 hD hB hR hp hcl hX
          have HX := Lib.hid hX
          have HC := Lib.hid hcl
          have HB := Lib.hid hB
          have HD := Lib.hid hD
          clear hX hcl hB hD hR hp
          refine wpOp_step rfl (fun K hK => ?_)
          simp only [putAll, Act.put, List.setIfInBounds_toArray, List.set_cons_succ, List.set_cons_zero]
          go_simp
          exact hK _ _ ⟨.pointer (some ⟨B, 0, none⟩), (by show _ = Act.put _ (some 32) _; simp only [putAll, Act.put, List.setIfInBounds_toArray, List.set_cons_succ, List.set_cons_zero, *]; all_goals rfl), rfl, EB.refl _ _ _, HX.out⟩
        refine AllF.step (m := 8) (j := 4) rfl ?_ ?_
        · intro D f w1 hD hB hR hp hcl hX
          have e2 : f 32 = .pointer (some ⟨B, 0, none⟩) := (hpAt hp 2 (by kernel_rfl)).2
          have h7 : D 7 = false := noF (hcl 7) (by kernel_rfl) hD
          have h10 : D 10 = false := noF (hcl 10) (by kernel_rfl) h7
          have h11 : D 11 = false := noF (hcl 11) (by kernel_rfl) h10
          have hx := hX
          rw [hD, h7, h10, h11] at hx
          have HXX := Lib.hid hx
          have HH : Hid (upd D 3 7 = false ∧ upd D 3 10 = false ∧ upd D 3 11 = false) := ⟨h7, h10, h11⟩
          have HRD := Lib.hid (rdv_eb HRW.out hTB.out hvb.out hB)
          clear hx h7 h10 h11
          have HX := Lib.hid hX
          have HC := Lib.hid hcl
          have HB := Lib.hid hB
          have HD := Lib.hid hD
          clear hX hcl hB hD hR hp
          refine wpOp_step rfl (fun K hK => ?_)
          simp only [putAll, Act.put, List.setIfInBounds_toArray, List.set_cons_succ, List.set_cons_zero]
          go_simp
          refine (Next_v B to' tc ts i 6 w1 HXX.out.1 HRD.out (by omega) (by omega) (by omega) 6 rfl).mono ?_; rintro e w2 ⟨r, rfl, hr, g2, _, t2⟩
          go_simp
          refine hK _ _ ⟨.int .i64 (r : Int), (by show _ = Act.put _ (some 33) _; simp only [putAll, Act.put, List.setIfInBounds_toArray, List.set_cons_succ, List.set_cons_zero, *]; all_goals rfl), ⟨r, hr, rfl⟩, EB.of_gb g2, ?_⟩
          show XM _ _ _ _ _ _ _ _ _ true (upd D 3 7) (upd D 3 10) (upd D 3 11) _ _ _
          rw [HH.out.1, HH.out.2.1, HH.out.2.2]
          exact ⟨t2, fun _ => (HXX.out.2.1 rfl).kept g2 (C6.row_block (HXX.out.2.1 rfl) hMB.out), fun h => (by cases h), fun h => (by cases h), fun _ => HXX.out.2.2.2.2 rfl⟩
        refine AllF.step (m := 7) (j := 5) rfl ?_ ?_
        · intro D f w1 hD hB hR hp hcl hX
          obtain ⟨g, eg, hg, hc⟩ := (hpAt hp 1 (by kernel_rfl)).2
          replace eg : f 31 = _ := eg
          obtain ⟨q, hq, eq⟩ := (hpAt hp 3 (by kernel_rfl)).2
          replace eq : f 33 = _ := eq
          obtain ⟨x, hx, hx1, hx2⟩ := row6 hc hq
          have hq7 : (q : Int) < 6 := by omega
          clear hc
          have HX := Lib.hid hX
          have HC := Lib.hid hcl
          have HB := Lib.hid hB
          have HD := Lib.hid hD
          clear hX hcl hB hD hR hp
          refine wpOp_step rfl (fun K hK => ?_)
          simp only [putAll, Act.put, List.setIfInBounds_toArray, List.set_cons_succ, List.set_cons_zero]
          go_simp
          exact hK _ _ ⟨.pointer (some ⟨g, q, none⟩), (by show _ = Act.put _ (some 34) _; simp only [putAll, Act.put, List.setIfInBounds_toArray, List.set_cons_succ, List.set_cons_zero, *]; all_goals rfl), ⟨g, q, x, rfl, hg, hx, hx1, hx2⟩, EB.refl _ _ _, HX.out⟩
        refine AllF.step (m := 6) (j := 6) rfl ?_ ?_
        · intro D f w1 hD hB hR hp hcl hX
          obtain ⟨g, q, x, ep, hg, hx, hx1, hx2⟩ := (hpAt hp 4 (by kernel_rfl)).2
          replace ep : f 34 = _ := ep
          have HX := Lib.hid hX
          have HC := Lib.hid hcl
          have HB := Lib.hid hB
          have HD := Lib.hid hD
          clear hX hcl hB hD hR hp
          refine wpOp_step rfl (fun K hK => ?_)
          simp only [putAll, Act.put, List.setIfInBounds_toArray, List.set_cons_succ, List.set_cons_zero]
          go_simp
          exact hK _ _ ⟨.int .i64 x, (by show _ = Act.put _ (some 35) _; simp only [putAll, Act.put, List.setIfInBounds_toArray, List.set_cons_succ, List.set_cons_zero, *]; all_goals rfl), ⟨x, rfl, hx1, hx2⟩, EB.refl _ _ _, HX.out⟩
        refine AllF.step (m := 5) (j := 7) rfl ?_ ?_
        · intro D f w1 hD hB hR hp hcl hX
          have HX := Lib.hid hX
          have HC := Lib.hid hcl
          have HB := Lib.hid hB
          have HD := Lib.hid hD
          clear hX hcl hB hD hR hp
          refine wpOp_step rfl (fun K hK => ?_)
          simp only [putAll, Act.put, List.setIfInBounds_toArray, List.set_cons_succ, List.set_cons_zero]
          go_simp
          exact hK _ _ ⟨.pointer (some ⟨B, 0, none⟩), (by show _ = Act.put _ (some 36) _; simp only [putAll, Act.put, List.setIfInBounds_toArray, List.set_cons_succ, List.set_cons_zero, *]; all_goals rfl), rfl, EB.refl _ _ _, HX.out⟩
        refine AllF.step (m := 4) (j := 8) rfl ?_ ?_
        · intro D f w1 hD hB hR hp hcl hX
          have e6 : f 36 = .pointer (some ⟨B, 0, none⟩) := (hpAt hp 6 (by kernel_rfl)).2
          have h3 : D 3 = true := (hpAt hp 3 (by kernel_rfl)).1
          have h10 : D 10 = false := noF (hcl 10) (by kernel_rfl) hD
          have h11 : D 11 = false := noF (hcl 11) (by kernel_rfl) h10
          have hx := hX
          rw [h3, hD, h10, h11] at hx
          have HXX := Lib.hid hx
          have HH : Hid (upd D 7 3 = true ∧ upd D 7 10 = false ∧ upd D 7 11 = false) := ⟨h3, h10, h11⟩
          have HRD := Lib.hid (rdv_eb HRW.out hTB.out hvb.out hB)
          clear hx h3 h10 h11
          have HX := Lib.hid hX
          have HC := Lib.hid hcl
          have HB := Lib.hid hB
          have HD := Lib.hid hD
          clear hX hcl hB hD hR hp
          refine wpOp_step rfl (fun K hK => ?_)
          simp only [putAll, Act.put, List.setIfInBounds_toArray, List.set_cons_succ, List.set_cons_zero]
          go_simp
          refine (Next_v B to' tc ts (i + 1) 4 w1 HXX.out.1 HRD.out (by omega) (by omega) (by omega) 4 rfl).mono ?_; rintro e w2 ⟨r, rfl, hr, g2, _, t2⟩
          go_simp
          refine hK _ _ ⟨.int .i64 (r : Int), (by show _ = Act.put _ (some 37) _; simp only [putAll, Act.put, List.setIfInBounds_toArray, List.set_cons_succ, List.set_cons_zero, *]; all_goals rfl), ⟨r, hr, rfl⟩, EB.of_gb g2, ?_⟩
          show XM _ _ _ _ _ _ _ _ _ (upd D 7 3) true (upd D 7 10) (upd D 7 11) _ _ _
          rw [HH.out.1, HH.out.2.1, HH.out.2.2]
          exact ⟨t2, fun _ => (HXX.out.2.1 rfl).kept g2 (C6.row_block (HXX.out.2.1 rfl) hMB.out), fun h => (by cases h), fun h => (by cases h), fun _ => HXX.out.2.2.2.2 rfl⟩
        refine AllF.step (m := 3) (j := 9) rfl ?_ ?_
        · intro D f w1 hD hB hR hp hcl hX
          obtain ⟨x, ex, hx1, hx2⟩ := (hpAt hp 5 (by kernel_rfl)).2
          replace ex : f 35 = _ := ex
          obtain ⟨q, hq, eq⟩ := (hpAt hp 7 (by kernel_rfl)).2
          replace eq : f 37 = _ := eq
          obtain ⟨y, hy⟩ : ∃ y : Int, y = x + (q : Int) := ⟨_, rfl⟩
          have hyb : 1 ≤ y ∧ y ≤ 402 := by omega
          have hyw : IntKind.i64.wrap y = y := IntWalk.i64_in _ (by omega)
          have hyy : x + (q : Int) = y := hy.symm
          clear hy
          have HX := Lib.hid hX
          have HC := Lib.hid hcl
          have HB := Lib.hid hB
          have HD := Lib.hid hD
          clear hX hcl hB hD hR hp
          refine wpOp_step rfl (fun K hK => ?_)
          simp only [putAll, Act.put, List.setIfInBounds_toArray, List.set_cons_succ, List.set_cons_zero]
          go_simp
          exact hK _ _ ⟨.int .i64 y, (by show _ = Act.put _ (some 38) _; simp only [putAll, Act.put, List.setIfInBounds_toArray, List.set_cons_succ, List.set_cons_zero, *]; all_goals rfl), ⟨y, rfl, hyb.1, hyb.2⟩, EB.refl _ _ _, HX.out⟩
        refine AllF.step (m := 2) (j := 10) rfl ?_ ?_
        · intro D f w1 hD hB hR hp hcl hX
          obtain ⟨y, ey, hy1, hy2⟩ := (hpAt hp 8 (by kernel_rfl)).2
          replace ey : f 38 = _ := ey
          have hs1 : Hid (W.heap.size ≤ w1.heap.size) := hB.2.2.2.1
          have HX := Lib.hid hX
          have HC := Lib.hid hcl
          have HB := Lib.hid hB
          have HD := Lib.hid hD
          clear hX hcl hB hD hR hp
          refine wpOp_step rfl (fun K hK => ?_)
          simp only [putAll, Act.put, List.setIfInBounds_toArray, List.set_cons_succ, List.set_cons_zero]
          go_simp
          refine hK _ _ ⟨.slice (some ⟨w1.heap.size, 0, none⟩) 1 1, (by show _ = Act.put _ (some 39) _; simp only [putAll, Act.put, List.setIfInBounds_toArray, List.set_cons_succ, List.set_cons_zero, *]; all_goals rfl), ⟨w1.heap.size, y, rfl, hs1.out, heap_alloc_new _ _, hy1, hy2⟩, EB.of_below (below_new _ _), ?_⟩
          exact XM.below HX.out (below_new _ _)
        refine AllF.step (m := 1) (j := 11) rfl ?_ ?_
        · intro D f w1 hD hB hR hp hcl hX
          have e0 : f 30 = v := (hpAt hp 0 (by kernel_rfl)).2
          obtain ⟨g, y, eg, hg, hc, hy1, hy2⟩ := (hpAt hp 9 (by kernel_rfl)).2
          replace eg : f 39 = _ := eg
          have h7 : D 7 = true := (hpAt hp 7 (by kernel_rfl)).1
          have h3 : D 3 = true := by have := hcl 7 h7 3 (by decide); exact this
          have h11 : D 11 = false := noF (hcl 11) (by kernel_rfl) hD
          have hx := hX
          rw [h3, h7, hD, h11] at hx
          have HXX := Lib.hid hx
          have HH : Hid (upd D 10 3 = true ∧ upd D 10 7 = true ∧ upd D 10 11 = false) := ⟨h3, h7, h11⟩
          have HCC := Lib.hid hc
          have hs1 : Hid (W.heap.size ≤ w1.heap.size) := hB.2.2.2.1
          clear hx h3 h7 h11 hc
          have HX := Lib.hid hX
          have HC := Lib.hid hcl
          have HB := Lib.hid hB
          have HD := Lib.hid hD
          clear hX hcl hB hD hR hp
          refine wpOp_step rfl (fun K hK => ?_)
          simp only [putAll, Act.put, List.setIfInBounds_toArray, List.set_cons_succ, List.set_cons_zero]
          rw [if_pos (by simp [Region.wanted])]
          refine wp_append_own w1 (.tmp 30) (.tmp 39) 26 (by rfl) M 2 i0 (.int .i64 0) 1 8 Tryz.underlying26 hi hz0 hz1 hz2 rfl (by decide) v n (intz xs) (by simp [Act.eval, e0]) (HXX.out.2.1 rfl) ⟨g, 0, none⟩ 1 1 [.int .i64 y] (by simp [Act.eval, eg]) rfl (World.news_of_block HCC.out) (by intro u hu; simp at hu; rcases hu with rfl; rfl) (by unfold maxLen; omega) (by omega) (Nat.le_trans hMW.out hs1.out) ?_; intro v4 w4 hown4 hgr4 _; obtain ⟨a4, c4, rfl⟩ := row_n hown4
          have hO4 : w4.ownsRow M 2 1 (.slice a4 (n + 1) c4) (n + 1) (intz (xs ++ [y])) := by rw [intz_snoc']; exact hown4
          have hT4 : Tap w4 B to' ts.length tc (i + 1 + 1) := Tap.grown HXX.out.1 hgr4 (fun q => by have := ((HXX.out.2.1 rfl).lt _ q.symm).1; have := hMB.out; omega)
          refine hK _ _ ⟨.slice a4 (n + 1) c4, (by show _ = Act.put _ (some 40) _; simp only [putAll, Act.put, List.setIfInBounds_toArray, List.set_cons_succ, List.set_cons_zero, *]; all_goals rfl), trivial, EB.of_row hgr4, ?_⟩
          show XM _ _ _ _ _ _ _ _ _ (upd D 10 3) (upd D 10 7) true (upd D 10 11) _ _ _
          rw [HH.out.1, HH.out.2.1, HH.out.2.2]
          exact ⟨hT4, fun h => (by cases h), fun _ => ⟨a4, c4, y, rfl, hy1, hy2, hO4⟩, fun h => (by cases h), fun _ => HXX.out.2.2.2.2 rfl⟩
        refine AllF.step (m := 0) (j := 12) rfl ?_ ?_
        · intro D f w1 hD hB hR hp hcl hX
          have h10 : D 10 = true := (hpAt hp 10 (by kernel_rfl)).1
          have h7 : D 7 = true := by have := hcl 10 h10 7 (by decide); exact this
          have h3 : D 3 = true := by have := hcl 7 h7 3 (by decide); exact this
          have hx := hX
          rw [h3, h7, h10, hD] at hx
          obtain ⟨a4, c4, y, e20, hy1, hy2, hO4⟩ := hx.2.2.1 rfl
          have HXX := Lib.hid hx
          have HH : Hid (upd D 11 3 = true ∧ upd D 11 7 = true ∧ upd D 11 10 = true) := ⟨h3, h7, h10⟩
          have HO4 := Lib.hid hO4
          clear hx h3 h7 h10 hO4
          have HX := Lib.hid hX
          have HC := Lib.hid hcl
          have HB := Lib.hid hB
          have HD := Lib.hid hD
          clear hX hcl hB hD hR hp
          refine wpOp_step rfl (fun K hK => ?_)
          simp only [putAll, Act.put, List.setIfInBounds_toArray, List.set_cons_succ, List.set_cons_zero]
          go_simp
          refine hK _ _ ⟨.slice a4 (n + 1) c4, (by show _ = Act.put _ (some 4) _; simp only [putAll, Act.put, List.setIfInBounds_toArray, List.set_cons_succ, List.set_cons_zero, *]; all_goals rfl), trivial, EB.refl _ _ _, ?_⟩
          show XM _ _ _ _ _ _ _ _ _ (upd D 11 3) (upd D 11 7) (upd D 11 10) true _ _ _
          rw [HH.out.1, HH.out.2.1, HH.out.2.2]
          exact ⟨HXX.out.1, fun h => (by cases h), fun _ => ⟨a4, c4, y, e20, hy1, hy2, HO4.out⟩, fun _ => ⟨a4, c4, y, rfl, hy1, hy2, HO4.out⟩, fun h => (by cases h)⟩
        exact trivial
      · intro D f w1 hall hB hR hX
        have hx := hX
        rw [hall 3 (by decide), hall 7 (by decide), hall 10 (by decide), hall 11 (by decide)] at hx
        obtain ⟨a, c, y, e4, hy1, hy2, hrow⟩ := hx.2.2.2.1 rfl
        have HTP : Hid (Tap w1 B to' ts.length tc (i + 1 + 1)) := hx.1
        have HROW := Lib.hid hrow
        have HXS : Hid (∀ z ∈ xs ++ [y], 1 ≤ z ∧ z ≤ 402) := fun z hz => by
          rcases List.mem_append.1 hz with h | h
          · exact hxs.out z h
          · rw [List.mem_singleton.1 h]; exact ⟨hy1, hy2⟩
        have HGB : Hid (w2.grownBy w1 (some B)) := ⟨hB.1.trans HGW.out.os, hB.2.1.trans HGW.out.tape, hB.2.2.1.trans HGW.out.output, Nat.le_trans HGW.out.size hB.2.2.2.1, fun b hb hne => (hB.2.2.2.2 b (Nat.lt_of_lt_of_le hb HGW.out.size) (fun q => hne (by rw [q])) (fun q => by have := (HOW.out.lt b q).1; have := HM.out; omega)).trans (HGW.out.block b hb hne)⟩
        have HU1 := Lib.hid (row_eb HUW.out HUB.out hB)
        have HL1 := Lib.hid (lc_eb HLW.out HNE.out hB)
        have HM1 : Hid (M ≤ w1.heap.size) := by unfold Hid; rw [HM.out]; exact HGB.out.size
        have HR1 : Hid (RdZ w1 to' tc ts) := rd_gbE R2.out hTB.out (Nat.le_of_lt hB2.out) HGB.out
        have SV := Lib.hid (Signed_v B to' tc ts (i + 1 + 1) w1 HTP.out HR1.out hTB.out (by omega))
        clear hx hrow hX hR hall hB HOW HUW HLW HTW HGW HUB HNE HRW
        simp only [putAll, Act.put, List.setIfInBounds_toArray, List.set_cons_succ, List.set_cons_zero, e4]
        clear e4
        go_wp2_with fail
        refine SV.out.mono ?_; rintro e w4 ⟨s4, a4, n4, c4, o4, m4, d4, q4, rfl, cq4, g4, t4⟩
        have HROW4 := Lib.hid (HROW.out.kept g4 (C6.row_block HROW.out hMB.out))
        have HU4 := Lib.hid (HU1.out.kept g4 (C6.row_block HU1.out hMB.out))
        have HL4 := Lib.hid (HL1.out.gb hMB.out g4)
        have HC4 := Lib.hid (cq4.mono HM1.out)
        have HG4 := Lib.hid (gb_trans HGB.out g4)
        have HM4 : Hid (M ≤ w4.heap.size) := Nat.le_trans HM1.out g4.size
        have HT4 := Lib.hid t4
        clear cq4 g4 t4 HROW HU1 HL1 HGB HM1 HR1 SV HTP
        go_wp2_with (at_builtin; refine wpList_append_own _ rfl _ _ 27 rfl M 32 r0 (.agg #[.bool false, .slice none 0 0, .slice none 0 0]) 3 56 Tryz.underlying27 HRI.out.1 HRI.out.2.1 HRI.out.2.2.1 HRI.out.2.2.2 rfl (by omega) _ _ _ rfl (HU4.out.alloc _) ⟨w4.heap.size, 0, none⟩ 1 1 [.bool s4, .slice a4 n4 c4, .slice o4 m4 d4] rfl rfl (three_cell _ _ _ _ _) (by intro u hu; simp at hu; rcases hu with rfl | rfl | rfl <;> rfl) (by unfold maxLen; omega) (by omega) (by have := HM4.out; simp; omega) ?_; intro v8 wn hown8 hgr8 _)
        have nA := below_new w4 (.cells #[.bool s4, .slice a4 n4 c4, .slice o4 m4 d4] 32)
        have gA : w4.grownBy (w4.alloc (.cells #[.bool s4, .slice a4 n4 c4, .slice o4 m4 d4] 32)) (some B) := below_gb nA _
        have HL8 : Hid (Lc M wn (rs ++ [⟨s4, a4, n4, c4, o4, m4, d4⟩]) (qv ++ [q4]) 2) := ((HL4.out.below nA).keepRow (HU4.out.alloc _) hgr8).snoc ((HC4.out.below nA).keepRow3 (HU4.out.alloc _) hgr8)
        have HO8 : Hid (wn.ownsRow M 32 3 v8 (n + 1) (rvs (rs ++ [⟨s4, a4, n4, c4, o4, m4, d4⟩]))) := by unfold Hid; rw [rvs_append]; exact hown8
        have HS8 : Hid (wn.ownsRow M 2 1 (.slice a (n + 1) c) (n + 1) (intz (xs ++ [y]))) := (row_below HROW4.out nA).kept hgr8 (by
          cases hu : (Value.slice a (n + 1) c).ownBlock with
          | none => exact .inl rfl
          | some k => exact .inr (fun q => rows_apart (by decide) HROW4.out HU4.out k hu q.symm))
        have HT8 : Hid (Tap wn B to' ts.length tc (1 + 4 * (n + 1))) := by
          have h : Tap wn B to' ts.length tc (i + 1 + 1 + 2) := Tap.grown (HT4.out.keep nA) hgr8 (fun q => by have := (HU4.out.lt B q.symm).1; have := hMB.out; omega)
          rw [HII.out, show 1 + 4 * n + 1 + 1 + 2 = 1 + 4 * (n + 1) by omega] at h
          exact h
        have HG8 : Hid (w2.grownBy wn (some B)) := by
          have h1 := gb_trans HG4.out gA
          exact ⟨hgr8.os.trans h1.os, hgr8.tape.trans h1.tape, hgr8.output.trans h1.output, Nat.le_trans h1.size hgr8.size, fun b hb hne => (hgr8.block b (Nat.lt_of_lt_of_le hb h1.size) (fun q => by have := (HU4.out.lt b q.symm).1; have := HM.out; omega)).trans (h1.block b hb hne)⟩
        clear nA gA hown8 hgr8 HROW4 HU4 HL4 HC4 HG4 HT4
        go_wp2_with fail
        go_roundw
        case rel => exact ⟨n + 1, .slice a (n + 1) c, v8, xs ++ [y], _, _, by omega, by go_num, rfl, rfl, HS8, HXS, HO8, HL8, HT8, HG8⟩
        case measure => simp [intOf]; omega
    · obtain rfl : n = N := by omega
      have hlt2 : ¬ (n : Int) < (n : Int) := by omega
      obtain ⟨la, lc, rfl⟩ := row_n hown.out
      have hxl : xs.length = n := by have := hown.out.1; rw [intz_length] at this; omega
      have hRw := Lib.hid (rd_gbE R2.out hTB.out (Nat.le_of_lt hB2.out) hgb.out)
      have NX := Next_v B to' tc ts (1 + 4 * n) n wr htp.out hRw.out (by omega) hN1 (by omega) (n : Int) rfl
      rw [← HNT.out] at NX
      have NX := Lib.hid NX
      obtain ⟨va, vc, hue, hvr0⟩ := RdR.of_row hownu.out
      have hrl : rs.length = n := by have := hownu.out.1; rw [rvs_length] at this; omega
      rw [hrl] at hue
      subst hue
      have HWR : Hid (Below w.heap.size w wr) := HW2.out.trans (row_gb hgb.out HW2.out.size (fun j e => by cases e; rw [HBB.out]; exact Nat.le_refl _))
      have HXL := Lib.hid hxl
      have HRL := Lib.hid hrl
      have hlcn : n ≤ lc := by have := (rdz_row hxl hown.out).1; rw [intz_length, hxl] at this; exact this
      have hlcn2 := (rdz_row hxl hown.out).2.1
      clear hvr0 hxl hrl htp hgb hRw
      go_wp2_with fail
      refine NX.out.mono ?_; rintro e w9 ⟨r9, rfl, hr9, g9, -, -⟩
      have hown9 := hown.out.kept g9 (C6.row_block hown.out hMB.out)
      have hownu9 := hownu.out.kept g9 (C6.row_block hownu.out hMB.out)
      have hz9 : RdZ w9 la lc xs := rdz_row HXL.out hown9
      obtain ⟨va', vc', hue', hvr⟩ := RdR.of_row hownu9
      simp only [Value.slice.injEq] at hue'
      obtain ⟨rfl, -, rfl⟩ := hue'
      have hls9 : Ls w9 rs qv 2 := (hlc.out.gb hMB.out g9).ls
      have B9 : Hid (Below w.heap.size w w9) := HWR.out.trans (row_gb g9 HWR.out.size (fun j e => by cases e; rw [HBB.out]; exact Nat.le_refl _))
      obtain ⟨k, hk⟩ : ∃ x : Nat, x = 1 + r9 := ⟨_, rfl⟩
      have hki : 1 + (r9 : Int) = (k : Int) := by omega
      have hkw : IntKind.i64.wrap (k : Int) = (k : Int) := IntWalk.i64_in _ (by omega)
      have hkb : 1 ≤ k ∧ k ≤ n := by omega
      have hqn : qv.length = n := by rw [← hls9.1]; exact HRL.out
      have hsz := szs_made4 (by rw [HXL.out]; exact hN1) (by rw [HXL.out]; omega) hxs.out
      have hE : Hid (drE xs (k : Int) = 0) := by
        unfold Hid drE
        rw [if_neg (by rw [hsz]; decide), if_neg (by rw [HXL.out]; omega)]
      have hx : Hid (∀ i, i < xs.length → 1 ≤ fx xs i ∧ fx xs i ≤ 1099511627776) := fun i hi => szs_at hsz hi
      have HSZ := Lib.hid hsz
      have HQN := Lib.hid hqn
      have HZ9 := Lib.hid hz9
      have HVR := Lib.hid hvr
      have HLS := Lib.hid hls9
      have IN := Inclusion_v xs (k : Int) la lc w9 (by rw [HXL.out]; omega) hz9
      rw [HXL.out] at IN
      have IN := Lib.hid IN
      obtain ⟨N, hNn⟩ : ∃ N, N = n := ⟨_, rfl⟩
      subst hNn
      clear hk hr9 g9 hown9 hownu9 hz9 hvr hls9 hown hownu hlc hxs hsz hqn NX
      go_wp2_with fail
      refine IN.out.mono ?_; rintro e W3 ⟨b3, h3⟩
      rcases h3 with ⟨h, _⟩ | ⟨-, m1, od1, K1, pa, pc, hkm, -, -, -, ho1, hK1, rfl, hpn⟩
      · exact absurd hE.out h
      obtain rfl : m1 = k := by omega
      have B3 : Hid (Below w.heap.size w W3) := B9.out.trans (b3.mono B9.out.size)
      have HZ3 : Hid (RdZ W3 la lc xs) := HZ9.out.below b3
      have HV3 : Hid (∀ w', Below W3.heap.size W3 w' → RdR w' va vc rs ∧ Ls w' rs qv 2) := fun w' hb => ⟨(HVR.out.below b3).below hb, (HLS.out.below b3).below hb⟩
      have BK := Breaks_v xs (m1 : Int) la lc W3 (by rw [HXL.out]; omega) HZ3.out
      rw [HXL.out] at BK ⊢
      have BK := Lib.hid BK
      have HPN3 := Lib.hid hpn
      have HO := Lib.hid ho1
      have HK := Lib.hid hK1
      clear hkm b3 hpn IN HZ9 HVR HLS ho1 hK1
      go_wp2_with fail
      refine BK.out.mono ?_; rintro e W4 ⟨b4, h4⟩
      rcases h4 with ⟨h, _⟩ | ⟨-, m, od, K, ba, L, bc, hkm, -, -, -, ho, hK, rfl, hL, hbn⟩
      · exact absurd hE.out h
      obtain rfl : m = m1 := by omega
      obtain rfl : od = od1 := ord_unique ho HO.out
      obtain rfl : K = K1 := cert_unique hK HK.out
      clear HO HK
      have hm2 : m ≤ xs.length := by rw [HXL.out]; exact hkb.2
      have h19 : xs.length ≤ 19 := by rw [HXL.out]; omega
      have B4 : Hid (Below w.heap.size w W4) := B3.out.trans (b4.mono B3.out.size)
      have HZ4 : Hid (RdZ W4 la lc xs) := HZ3.out.below b4
      have HV4 : Hid (∀ w', Below W4.heap.size W4 w' → RdR w' va vc rs ∧ Ls w' rs qv 2) := fun w' hb => HV3.out w' (b4.trans (hb.mono b4.size))
      obtain ⟨A, hA⟩ : ∃ A, A = itv (fx xs) od K := ⟨_, rfl⟩
      obtain ⟨bd, hbd⟩ : ∃ f, f = bnd (bks (fx xs) od m K xs.length) (itv (fx xs) od K) := ⟨_, rfl⟩
      obtain ⟨ln, hln⟩ : ∃ f, f = len (bks (fx xs) od m K xs.length) (itv (fx xs) od K) := ⟨_, rfl⟩
      obtain ⟨DB, hDB⟩ : ∃ f : Nat → List Nat, f = fun j => drB (fx xs) (od.take K) ((m : Int) - (K : Int)) (T (fx xs) od K) (bnd (bks (fx xs) od m K xs.length) (itv (fx xs) od K) j) xs.length := ⟨_, rfl⟩
      obtain ⟨ac, hac⟩ : ∃ f, f = accI (fx xs) od m K xs.length := ⟨_, rfl⟩
      obtain ⟨Q, hQ⟩ : ∃ f, f = incQ (fx xs) od K ((m : Int) - (K : Int)) := ⟨_, rfl⟩
      obtain ⟨V, hV⟩ : ∃ V : Nat → Rat, V = fun u => qv.getD u 0 := ⟨_, rfl⟩
      have PT : Hid (Parts N m L A bd ln DB ac) := by
        unfold Hid
        rw [hbd, hln, hDB, hac, hA, hL, ← HXL.out]
        exact parts_of ho hK hx.out hm2 h19
      have AE : Hid (∀ u, u < N → fq (ac u L) A = Q u) := fun u hu => by
        rw [hac, hA, hL, hQ]
        exact accI_end ho hK hx.out hm2 h19 (by rw [HXL.out]; exact hu)
      have GD : Hid (∀ u, u < N → goodp (Q u) = true) := fun u hu => by
        rw [hQ]
        exact inc_good ho hK hx.out hkb.1 hm2 (by rw [HXL.out]; exact hu)
      have FT : Hid (∀ j, DB j = (List.range N).filter (fun u => decide (u ∈ DB j))) := fun j => by
        rw [hDB, ← HXL.out]
        exact filt_drB _ _ _ _ _ _
      have SP : Hid (∀ w', Below W4.heap.size W4 w' → ∀ j, j < L → ∀ s ao n0 ca0 bo m0 cb k q, 2 ≤ k ∧ k + k + 1 ≤ 549755813888 → RQ w' s ao n0 ca0 bo m0 cb q k → (bd j : Rat) / (A : Rat) ≤ q → q < (bd (j + 1) : Rat) / (A : Rat) →
          Calls Tryz.prog 9 #[.slice la N lc, .int .i64 (m : Int), .agg #[.bool s, .slice ao n0 ca0, .slice bo m0 cb]] w' fun e w'' => ∃ a c, e = .returned (.tuple #[.slice a m c, .int .i64 0]) ∧ RdZ w'' a c (iz (DB j)) ∧ Below w'.heap.size w' w'') := fun w' hb j hj s ao n0 ca0 bo m0 cb k q hk hq h0 h1 => by
        rw [hbd, hA] at h0 h1
        rw [hL] at hj
        rw [← HXL.out, hDB]
        exact Systematic_part xs od m K j la lc s ao bo n0 ca0 m0 cb k q hk w' HSZ.out h19 hkb.1 hm2 ho hK (HZ4.out.below hb) hq hj h0 h1
      have hQB : RdN W4 ba bc L (fun j => fq (bd j) A) := by
        obtain ⟨bl, q1, q2, q3⟩ := hbn
        refine ⟨bl, q1, q2, q3.cg (fun u hu => ?_)⟩
        rw [hbd, hA]
        unfold brkQ
        rw [bnd_in (by rw [← hL]; exact hu)]
        simp [List.getD, show u < (bks (fx xs) od m K xs.length).length by rw [← hL]; exact hu]
      have hLN : 1 ≤ L ∧ L ≤ N + 1 := PT.out.cnt
      have hpn4 : RdN W4 pa pc N Q := by rw [hQ, ← HXL.out]; exact HPN3.out.below b4
      obtain ⟨ps, hps1, hps2, hps3⟩ := hpn4
      obtain ⟨bl, hbl1, hbl2, hbl3⟩ := hQB
      obtain ⟨bb, bo, rfl, hat⟩ := hbl2.at (by omega)
      obtain ⟨pb, po, rfl, hpat⟩ := hps2.at (by omega)
      obtain ⟨vb, vo, rfl, hvat⟩ := (HV4.out W4 (Below.refl _ _)).1.at (by rw [HRL.out]; omega)
      have hbc : L ≤ bc := by have := hbl2.1; omega
      have hbc2 := hbl2.2.1
      have hpc : N ≤ pc := by have := hps2.1; omega
      have hpc2 := hps2.2.1
      have hvc : N ≤ vc := by have := (HV4.out W4 (Below.refl _ _)).1.1; have := HRL.out; omega
      have hvc2 := (HV4.out W4 (Below.refl _ _)).1.2.1
      have HBR : Hid (∀ w', Below W4.heap.size W4 w' → ∀ j, j < L → At3 w' bb (bo + j * 3) (bl.getD j RV.nil) ∧ CQ 0 w' (bl.getD j RV.nil).s (bl.getD j RV.nil).ao (bl.getD j RV.nil).n (bl.getD j RV.nil).ca (bl.getD j RV.nil).bo (bl.getD j RV.nil).m (bl.getD j RV.nil).cb (fq (bd j) A) 2) := fun w' hb j hj => ⟨(hat j (by omega)).below hb, (hbl3.at hj).below hb⟩
      have HPA : Hid (∀ w', Below W4.heap.size W4 w' → ∀ u, u < N → At3 w' pb (po + u * 3) (ps.getD u RV.nil)) := fun w' hb u hu => (hpat u (by omega)).below hb
      have HVA : Hid (∀ w', Below W4.heap.size W4 w' → ∀ u, u < N → At3 w' vb (vo + u * 3) (rs.getD u RV.nil)) := fun w' hb u hu => (hvat u (by rw [HRL.out]; exact hu)).below hb
      have HPL : Hid (∀ w', Below W4.heap.size W4 w' → Ls w' ps ((List.range N).map Q) 2) := fun w' hb => ⟨by simp [hps1], fun i hi => by
        rw [hps1] at hi
        have e : ((List.range N).map Q).getD i 0 = Q i := by simp [List.getD, hi]
        rw [e]
        exact ((hps3.at hi).below hb).rq⟩
      have HPS := Lib.hid hps1
      have HVQ : Hid (∀ u, V u = qv.getD u 0) := fun u => by rw [hV]
      have HVN : Hid (qs V N = qsum qv) := by
        unfold Hid qs
        rw [hV, ← HQN.out, getD_range]
      have EC0 : ((0 : Int) != 0) = false := rfl
      have EC1 : ((N : Int) != (N : Int)) = false := by simp
      have EC2 : decide ((L : Int) < 1) = false := decide_eq_false (by omega)
      have EC3 : decide ((N : Int) + 1 < (L : Int)) = false := decide_eq_false (by omega)
      have hL20 : L ≤ 8 := by omega
      have hm8 : m ≤ 7 ∧ 1 ≤ m := by omega
      have ON : Hid (∀ w', Calls Tryz.prog 8 #[] w' (MakesQ 1 2 w')) := fun w' => rOne_q w'
      obtain ⟨W5, hW5⟩ : ∃ W, W = W4.alloc (.cells #[.bool false, .slice none 0 0, .slice none 0 0] 32) := ⟨_, rfl⟩
      obtain ⟨gm, hgm⟩ : ∃ g, g = W4.heap.size := ⟨_, rfl⟩
      have HGM := Lib.hid hgm
      have XM5 : Hid (∃ s a n c o m' d, W5.heap[gm]? = some (.cells #[.bool s, .slice a n c, .slice o m' d] 32 (0, 0)) ∧ CQ 0 W5 s a n c o m' d (meanQ (fun u => V u / Q u) ac A N 0) (kq 8200193 0)) := by
        rw [mean_zero PT.out, kq_zero]
        exact ⟨false, none, 0, 0, none, 0, 0, by rw [hW5, hgm]; exact heap_alloc_new _ _, cq_zero 0 _ 8200193 (by omega) (by omega)⟩
      have HB5 : Hid (Below gm W4 W5) := by rw [hW5, hgm]; exact below_new _ _
      clear hkm ho hK hL hbn b4 hA hbd hln hDB hac hQ hV BK HPN3 B3 HZ3 hx hE HSZ hat hbl1 hbl2 hbl3 hpat hvat hps1 hps2 hps3 HZ4 HV3 HQN hm2 h19 hkb hki hkw
      go_upto_region 15 with fail
      rw [← hW5]
      try rw [← hgm]
      clear hW5 hgm
      go_wp2_with fail
      go_loopw [93] (fun s93 wr => ∃ j : Nat, j ≤ L ∧ s93 = .int .i64 (j : Int) ∧ Hid (∃ s a n c o m' d, wr.heap[gm]? = some (.cells #[.bool s, .slice a n c, .slice o m' d] 32 (0, 0)) ∧ CQ 0 wr s a n c o m' d (meanQ (fun u => V u / Q u) ac A N j) (kq 8200193 j)) ∧ Hid (Below gm W4 wr)) (fun s93 _ => L - (intOf s93).toNat)
      case atStart => exact ⟨0, by omega, rfl, XM5, HB5⟩
      case round =>
        obtain ⟨j, hjL, rfl, hmean, hbl⟩ := hrel
        by_cases hlt : j < L
        · have hlt2 : (j : Int) < (L : Int) := by omega
          obtain ⟨r, hr⟩ : ∃ r, r = bl.getD j RV.nil := ⟨_, rfl⟩
          have HR : Hid (∀ w', Below gm W4 w' → At3 w' bb (bo + j * 3) r ∧ CQ 0 w' r.s r.ao r.n r.ca r.bo r.m r.cb (fq (bd j) A) 2) := fun w' hb => by rw [hr]; exact HBR.out w' (by rw [← HGM.out]; exact hb) j hlt
          have hPB := Lib.hid (PT.out.hbd j hlt)
          have hwg : gm < wr.heap.size := by obtain ⟨_, _, _, _, _, _, _, h, _⟩ := hmean.out; exact (Array.getElem?_eq_some_iff.1 h).1
          obtain ⟨QL, hQL⟩ : ∃ q, q = fq (ln j) A := ⟨_, rfl⟩
          have hlnb : Hid (1 ≤ ln j ∧ ln j ≤ A) := by unfold Hid; rw [PT.out.hln j]; have := hPB.out; omega
          have QS : Hid (Sm (rn QL) 2 ∧ Sm QL.den 2) := by rw [hQL]; exact fq_sm PT.out.ab.1 PT.out.ab.2 (by have := hlnb.out; omega) (by have := hlnb.out; have := PT.out.ab; omega)
          have hSub : Hid (fq (bd (j + 1)) A - fq (bd j) A = QL) := by unfold Hid; rw [fq_sub PT.out.ab.1 hPB.out.1 (Int.le_of_lt hPB.out.2.1), hQL, PT.out.hln j]
          have HQL := Lib.hid hQL
          clear hr hQL
          go_wp2_with fail
          refine (ON.out _).mono ?_; rintro e w4 ⟨s4, a4, n4, c4, o4, m4, d4, rfl, cq4, b4⟩
          obtain ⟨W6, hW6⟩ : ∃ W, W = w4.alloc (.cells #[.bool s4, .slice a4 n4 c4, .slice o4 m4 d4] 32) := ⟨_, rfl⟩
          obtain ⟨g5, hg5⟩ : ∃ g, g = w4.heap.size := ⟨_, rfl⟩
          have b5 : Below w4.heap.size w4 W6 := by rw [hW6]; exact below_new _ _
          have x5 : Hid (W6.heap[g5]? = some (.cells #[.bool s4, .slice a4 n4 c4, .slice o4 m4 d4] 32 (0, 0))) := by rw [hW6, hg5]; exact heap_alloc_new _ _
          have b45 := b4.trans (b5.mono b4.size)
          have hmean5 : Hid (∃ s a n c o m' d, W6.heap[gm]? = some (.cells #[.bool s, .slice a n c, .slice o m' d] 32 (0, 0)) ∧ CQ 0 W6 s a n c o m' d (meanQ (fun u => V u / Q u) ac A N j) (kq 8200193 j)) := by
            obtain ⟨s, a, n, c, o, m', d, h1, h2⟩ := hmean.out
            exact ⟨s, a, n, c, o, m', d, carry h1 b45, h2.below b45⟩
          have cq5 := Lib.hid ((cq4.below b5).mono (Nat.zero_le _))
          have HB6 : Hid (Below gm W4 W6) := hbl.out.trans (b45.mono (Nat.le_of_lt hwg))
          have hg5w : Hid (gm < g5) := by unfold Hid; rw [hg5]; have := b4.size; omega
          obtain ⟨j1, hj1⟩ : ∃ j1, j1 = j + 1 := ⟨_, rfl⟩
          have ej : (j : Int) + 1 = (j1 : Int) := by omega
          have HJ1 := Lib.hid hj1
          clear cq4 b4 b5 b45 hmean hbl hwg hj1
          go_upto_if 101 with fail
          rw [← hW6]
          try rw [← hg5]
          clear hW6 hg5
          go_cut [] from 101 to 106 (fun wx => ∃ sT aT nT cT oT mT dT, Hid (wx.heap[g5]? = some (.cells #[.bool sT, .slice aT nT cT, .slice oT mT dT] 32 (0, 0))) ∧ Hid (CQ 0 wx sT aT nT cT oT mT dT (fq (bd (j + 1)) A) 2) ∧ Hid (∃ s a n c o m' d, wx.heap[gm]? = some (.cells #[.bool s, .slice a n c, .slice o m' d] 32 (0, 0)) ∧ CQ 0 wx s a n c o m' d (meanQ (fun u => V u / Q u) ac A N j) (kq 8200193 j)) ∧ Hid (Below gm W4 wx))
          case first =>
            by_cases hj1L : j1 < L
            · have hj1I : (j1 : Int) < (L : Int) := by omega
              obtain ⟨ha1, hc1⟩ := HBR.out W6 (by rw [← HGM.out]; exact HB6.out) j1 hj1L
              obtain ⟨rr, hrr⟩ : ∃ r, r = bl.getD j1 RV.nil := ⟨_, rfl⟩
              rw [← hrr] at ha1 hc1
              obtain ⟨t0, t1, t2⟩ := ha1
              obtain ⟨p0, p1, p2, z0, z1, z2⟩ := at_block x5.out
              have hj1c : j1 < bc := by omega
              have hc1 := Lib.hid hc1
              have SC : Hid (∀ w7, w7 = ((W6.setCell ⟨g5, 0, none⟩ (.bool rr.s)).setCell ⟨g5, 1, none⟩ (.slice rr.ao rr.n rr.ca)).setCell ⟨g5, 2, none⟩ (.slice rr.bo rr.m rr.cb) → ∃ sT aT nT cT oT mT dT, Hid (w7.heap[g5]? = some (.cells #[.bool sT, .slice aT nT cT, .slice oT mT dT] 32 (0, 0))) ∧ Hid (CQ 0 w7 sT aT nT cT oT mT dT (fq (bd (j + 1)) A) 2) ∧ Hid (∃ s a n c o m' d, w7.heap[gm]? = some (.cells #[.bool s, .slice a n c, .slice o m' d] 32 (0, 0)) ∧ CQ 0 w7 s a n c o m' d (meanQ (fun u => V u / Q u) ac A N j) (kq 8200193 j)) ∧ Hid (Below gm W4 w7)) := fun w7 hw7 => by
                have hgb7 : W6.grownBy w7 (some g5) := by rw [hw7]; exact gb_trans (gb_trans (gbs _ _ _ _) (gbs _ _ _ _)) (gbs _ _ _ _)
                have keyC : ∀ {s a n c o m' d q k}, CQ 0 W6 s a n c o m' d q k → CQ 0 w7 s a n c o m' d q k := fun h => cq_box x5.out h hgb7
                refine ⟨rr.s, rr.ao, rr.n, rr.ca, rr.bo, rr.m, rr.cb, ?_, ?_, ?_, ?_⟩
                · rw [hw7]; exact set3_at x5.out _ _ _
                · unfold Hid; rw [← HJ1.out]; exact keyC hc1.out
                · obtain ⟨s, a, n, c, o, m', d, h1, h2⟩ := hmean5.out
                  exact ⟨s, a, n, c, o, m', d, (hgb7.block gm (Array.getElem?_eq_some_iff.1 h1).1 (fun e => by have h9 := hg5w.out; have := Option.some.inj e; omega)).trans h1, keyC h2⟩
                · exact HB6.out.trans (row_gb hgb7 (by have := hg5w.out; have := (Array.getElem?_eq_some_iff.1 x5.out).1; omega) (fun k e => by have h5 := hg5w.out; have := Option.some.inj e; omega))
              clear hrr
              go_wp2_with fail
              go_meet
              exact SC.out _ rfl
            · have hj1I : ¬ (j1 : Int) < (L : Int) := by omega
              have FIN : Hid (∃ sT aT nT cT oT mT dT, Hid (W6.heap[g5]? = some (.cells #[.bool sT, .slice aT nT cT, .slice oT mT dT] 32 (0, 0))) ∧ Hid (CQ 0 W6 sT aT nT cT oT mT dT (fq (bd (j + 1)) A) 2) ∧ Hid (∃ s a n c o m' d, W6.heap[gm]? = some (.cells #[.bool s, .slice a n c, .slice o m' d] 32 (0, 0)) ∧ CQ 0 W6 s a n c o m' d (meanQ (fun u => V u / Q u) ac A N j) (kq 8200193 j)) ∧ Hid (Below gm W4 W6)) := ⟨s4, a4, n4, c4, o4, m4, d4, x5.out, by
                have e : j + 1 = L := by have := HJ1.out; omega
                unfold Hid
                rw [e, PT.out.fin, fq_self PT.out.ab.1]
                exact cq5.out, hmean5, HB6⟩
              go_wp2_with fail
              go_meet
              exact FIN.out
          case rest =>
            clear x5 cq5 hmean5 HB6
            rename World => W7
            obtain ⟨st, at', nt', ct, ot, mt, dt, x7, cq7, hmean, hbl⟩ := hcut
            have hwg : gm < W7.heap.size := by obtain ⟨_, _, _, _, _, _, _, h, _⟩ := hmean.out; exact (Array.getElem?_eq_some_iff.1 h).1
            have hjc : j < bc := by omega
            obtain ⟨hra, hrc⟩ := HR.out W7 hbl.out
            obtain ⟨l0, l1, l2⟩ := hra
            have S1 := Lib.hid (SP.out W7 (by rw [← HGM.out]; exact hbl.out) j hlt _ _ _ _ _ _ _ 2 _ (by omega) hrc.rq (fq_ge PT.out.ab.1 hPB.out.1) (fq_lt PT.out.ab.1 hPB.out.1 hPB.out.2.1))
            clear hrc
            go_wp2_with fail
            refine S1.out.mono ?_; rintro e W9 ⟨a1, c1, rfl, hz1', b9⟩
            obtain ⟨X0, hX0⟩ : ∃ X, X = W9 := ⟨_, rfl⟩
            have HB9 : Hid (Below gm W4 X0) := by rw [hX0]; exact hbl.out.trans (b9.mono (Nat.le_of_lt hwg))
            have hwg9 : Hid (gm < X0.heap.size) := by rw [hX0]; exact Nat.lt_of_lt_of_le hwg b9.size
            have hmean9 : Hid (∃ s a n c o m' d, X0.heap[gm]? = some (.cells #[.bool s, .slice a n c, .slice o m' d] 32 (0, 0)) ∧ CQ 0 X0 s a n c o m' d (meanQ (fun u => V u / Q u) ac A N j) (kq 8200193 j)) := by
              obtain ⟨s, a, n, c, o, m', d, h1, h2⟩ := hmean.out
              rw [hX0]
              exact ⟨s, a, n, c, o, m', d, carry h1 b9, h2.below b9⟩
            have X9 : Hid (X0.heap[g5]? = some (.cells #[.bool st, .slice at' nt' ct, .slice ot mt dt] 32 (0, 0))) := by rw [hX0]; exact carry x7.out b9
            have CQ9 : Hid (CQ 0 X0 st at' nt' ct ot mt dt (fq (bd (j + 1)) A) 2) := by rw [hX0]; exact cq7.out.below b9
            have HZ9 : Hid (RdZ X0 a1 c1 (iz (DB j))) := by rw [hX0]; exact hz1'
            have HDL := Lib.hid (PT.out.db j hlt)
            have hm1c : m ≤ c1 := by have := HZ9.out.1; rw [intz_length, iz_len, HDL.out] at this; exact this
            have hm1c2 := HZ9.out.2.1
            obtain ⟨M3, hM3⟩ : ∃ M, M = X0.heap.size := ⟨_, rfl⟩
            have HM3 := Lib.hid hM3
            have HST : Hid (Below M3 X0 W9) := by rw [hM3, hX0]; exact Below.refl _ _
            clear l0 l1 l2 b9 hz1' S1 hmean hbl x7 cq7 hwg hX0 hM3
            go_wp2_with fail
            go_loopw [121, 16, 17] (fun s121 s16 s17 wi => ∃ (i : Nat) (v u : Value), i ≤ m ∧ s121 = .int .i64 (i : Int) ∧ v = s16 ∧ u = s17 ∧ Hid (wi.ownsRow M3 32 3 v i (rvs (((DB j).take i).map (fun u => rs.getD u RV.nil)))) ∧ Hid (wi.ownsRow M3 32 3 u i (rvs (((DB j).take i).map (fun u => ps.getD u RV.nil)))) ∧ Hid (∀ k, v.ownBlock = some k → u.ownBlock ≠ some k) ∧ Hid (Below M3 X0 wi)) (fun s121 _ _ _ => m - (intOf s121).toNat)
            case atStart => exact ⟨0, _, _, by omega, rfl, rfl, rfl, World.ownsRow_nil _ _ _ _, World.ownsRow_nil _ _ _ _, (show ∀ k, (Value.slice none 0 0).ownBlock = some k → _ from fun k h => by cases h), HST⟩
            case round =>
              obtain ⟨i, v, u, him, rfl, rfl, rfl, hown, hownu, hap, hbl⟩ := hrel
              have hbl2 : Hid (Below X0.heap.size X0 wr) := by rw [← HM3.out]; exact hbl.out
              have HBW : Hid (Below gm W4 wr) := HB9.out.trans (hbl2.out.mono (Nat.le_of_lt hwg9.out))
              by_cases hli : i < m
              · have hli2 : (i : Int) < (m : Int) := by omega
                obtain ⟨b, o, rfl, kx⟩ := (HZ9.out.below hbl2.out).atZ (show i < (iz (DB j)).length by rw [iz_len, HDL.out]; exact hli)
                rw [iz_getD] at kx
                obtain ⟨y, hy⟩ : ∃ u, u = (DB j).getD i 0 := ⟨_, rfl⟩
                have hyN : y < N := by rw [hy]; exact PT.out.dlt j hlt i hli
                rw [← hy] at kx
                have hy0 : decide ((y : Int) < 0) = false := decide_eq_false (by omega)
                have hy1 : decide ((N : Int) ≤ (y : Int)) = false := decide_eq_false (by omega)
                have hyI : (y : Int) < (N : Int) := by omega
                have hic : i < c1 := by omega
                have hyv : y < vc := by omega
                have hyp : y < pc := by omega
                obtain ⟨r1, hr1⟩ : ∃ r, r = rs.getD y RV.nil := ⟨_, rfl⟩
                obtain ⟨r2, hr2⟩ : ∃ r, r = ps.getD y RV.nil := ⟨_, rfl⟩
                obtain ⟨xs1, hxs1⟩ : ∃ l, l = rvs (((DB j).take i).map (fun u => rs.getD u RV.nil)) := ⟨_, rfl⟩
                obtain ⟨xs2, hxs2⟩ : ∃ l, l = rvs (((DB j).take i).map (fun u => ps.getD u RV.nil)) := ⟨_, rfl⟩
                have HX1 : Hid (xs1 ++ [.bool r1.s, .slice r1.ao r1.n r1.ca, .slice r1.bo r1.m r1.cb] = rvs (((DB j).take (i + 1)).map (fun u => rs.getD u RV.nil))) := by
                  unfold Hid
                  rw [map_getD_take (DB j) (fun u => rs.getD u RV.nil) (by rw [HDL.out]; exact hli), rvs_append, ← hxs1, ← hy, ← hr1]
                have HX2 : Hid (xs2 ++ [.bool r2.s, .slice r2.ao r2.n r2.ca, .slice r2.bo r2.m r2.cb] = rvs (((DB j).take (i + 1)).map (fun u => ps.getD u RV.nil))) := by
                  unfold Hid
                  rw [map_getD_take (DB j) (fun u => ps.getD u RV.nil) (by rw [HDL.out]; exact hli), rvs_append, ← hxs2, ← hy, ← hr2]
                obtain ⟨W, hW⟩ : ∃ W, W = wr := ⟨_, rfl⟩
                obtain ⟨M, hMM⟩ : ∃ M', M' = M3 := ⟨_, rfl⟩
                have HO1 : Hid (W.ownsRow M 32 3 v i xs1) := by rw [hW, hMM, hxs1]; exact hown.out
                have HO2 : Hid (W.ownsRow M 32 3 u i xs2) := by rw [hW, hMM, hxs2]; exact hownu.out
                have HAP : Hid (∀ k, v.ownBlock = some k → u.ownBlock ≠ some k) := hap.out
                have hvW : Hid (∀ k, v.ownBlock = some k → k < W.heap.size) := fun k e => (HO1.out.lt k e).2
                have huW : Hid (∀ k, u.ownBlock = some k → k < W.heap.size) := fun k e => (HO2.out.lt k e).2
                have hMW : Hid (M ≤ W.heap.size) := by rw [hW, hMM, HM3.out]; exact hbl2.out.size
                have HE : Hid (∀ w1, E2 v u W w1 → Below M3 X0 w1) := fun w1 e => by
                  rw [hW] at e
                  refine below_e2 hbl.out e (by rw [HM3.out]; exact hbl2.out.size) (fun k h => by have := (HO1.out.lt k h).1; rw [hMM] at this; exact this) (fun k h => by have := (HO2.out.lt k h).1; rw [hMM] at this; exact this)
                have KV : Hid (∀ w1, E2 v u W w1 → At3 w1 vb (vo + y * 3) r1) := fun w1 e => by
                  rw [hr1]
                  exact HVA.out w1 (by rw [← HGM.out]; exact HB9.out.trans ((show Below X0.heap.size X0 w1 by rw [← HM3.out]; exact HE.out w1 e).mono (Nat.le_of_lt hwg9.out))) y hyN
                have KP : Hid (∀ w1, E2 v u W w1 → At3 w1 pb (po + y * 3) r2) := fun w1 e => by
                  rw [hr2]
                  exact HPA.out w1 (by rw [← HGM.out]; exact HB9.out.trans ((show Below X0.heap.size X0 w1 by rw [← HM3.out]; exact HE.out w1 e).mono (Nat.le_of_lt hwg9.out))) y hyN
                have HMM := Lib.hid hMM
                have hi7 : i ≤ 7 := by omega
                clear hy hr1 hr2 hxs1 hxs2 hown hownu hap hbl hbl2 HBW
                go_upto_region 30 with fail
                rw [← hW]
                clear hW kx hMM
                refine wp_region_any (by kernel_rfl) ?_
                refine region_ssa2 [133, 134, 135, 136, 137, 138, 139, 140, 141, 142, 143, 144, 145, 146, 16, 17] (E2 v u W) (E2 v u) (LsE [fun x _ => x = v, fun x _ => x = .slice (some ⟨vb, vo, none⟩) N vc, fun x _ => x = .int .i64 (y : Int), fun x _ => x = .pointer (some ⟨vb, vo + y * 3, none⟩), fun x _ => x = .agg #[.bool r1.s, .slice r1.ao r1.n r1.ca, .slice r1.bo r1.m r1.cb], litP W r1, fun _ _ => True, fun x _ => x = u, fun x _ => x = .slice (some ⟨pb, po, none⟩) N pc, fun x _ => x = .int .i64 (y : Int), fun x _ => x = .pointer (some ⟨pb, po + y * 3, none⟩), fun x _ => x = .agg #[.bool r2.s, .slice r2.ao r2.n r2.ca, .slice r2.bo r2.m r2.cb], litP W r2, fun _ _ => True, fun _ _ => True, fun _ _ => True]) (fun D f w1 => X30 M i xs1 xs2 r1 r2 v u (D 6) (D 13) (D 14) (D 15) (f 139) (f 146) (f 16) (f 17) w1) (fun f => rfl) (by kernel_rfl) (by kernel_rfl) ?_ ?_ ?_ ?_ (AllF.below (n := 16) ?_) ?_
                · exact ⟨rfl, rfl, rfl, Nat.le_refl _, fun _ _ _ _ => rfl⟩
                · exact ⟨fun _ => HO1.out, fun h => (by cases h), fun _ => HO2.out, fun h => (by cases h), fun _ => rfl, fun h => (by cases h), fun _ => rfl, fun h => (by cases h)⟩
                · intro jx vx w1 w2 _ h hE; exact LsE.ext (St2L.all (l := [fun x _ => x = v, fun x _ => x = .slice (some ⟨vb, vo, none⟩) N vc, fun x _ => x = .int .i64 (y : Int), fun x _ => x = .pointer (some ⟨vb, vo + y * 3, none⟩), fun x _ => x = .agg #[.bool r1.s, .slice r1.ao r1.n r1.ca, .slice r1.bo r1.m r1.cb], litP W r1, fun _ _ => True, fun x _ => x = u, fun x _ => x = .slice (some ⟨pb, po, none⟩) N pc, fun x _ => x = .int .i64 (y : Int), fun x _ => x = .pointer (some ⟨pb, po + y * 3, none⟩), fun x _ => x = .agg #[.bool r2.s, .slice r2.ao r2.n r2.ca, .slice r2.bo r2.m r2.cb], litP W r2, fun _ _ => True, fun _ _ => True, fun _ _ => True]) ⟨St2.val _ _ _, St2.val _ _ _, St2.val _ _ _, St2.val _ _ _, St2.val _ _ _, St2.lit hvW.out huW.out _, St2.triv _ _, St2.val _ _ _, St2.val _ _ _, St2.val _ _ _, St2.val _ _ _, St2.val _ _ _, St2.lit hvW.out huW.out _, St2.triv _ _, St2.triv _ _, St2.triv _ _, trivial⟩) jx vx w1 w2 h hE
                · intro w1 w2 hB hE; exact hB.trans hE
                · refine AllF.step (m := 15) (j := 1) rfl ?_ ?_
                  · intro D f w1 hD hB hR hp hcl hX
                    have h14 : D 14 = false := noF (hcl 14) (by kernel_rfl) hD
                    have e16 : f 16 = v := hX.2.2.2.2.1 h14
                    clear h14
                    have HX := Lib.hid hX
                    have HC := Lib.hid hcl
                    have HB := Lib.hid hB
                    have HD := Lib.hid hD
                    clear hX hcl hB hD hR hp
                    refine wpOp_step rfl (fun K hK => ?_)
                    simp only [putAll, Act.put, List.setIfInBounds_toArray, List.set_cons_succ, List.set_cons_zero]
                    go_simp
                    exact hK _ _ ⟨v, (by show _ = Act.put _ (some 133) _; simp only [putAll, Act.put, List.setIfInBounds_toArray, List.set_cons_succ, List.set_cons_zero, *]; all_goals rfl), rfl, E2.refl _ _ _, HX.out⟩
                  refine AllF.step (m := 14) (j := 2) rfl ?_ ?_
                  · intro D f w1 hD hB hR hp hcl hX
                    have HX := Lib.hid hX
                    have HC := Lib.hid hcl
                    have HB := Lib.hid hB
                    have HD := Lib.hid hD
                    clear hX hcl hB hD hR hp
                    refine wpOp_step rfl (fun K hK => ?_)
                    simp only [putAll, Act.put, List.setIfInBounds_toArray, List.set_cons_succ, List.set_cons_zero]
                    go_simp
                    exact hK _ _ ⟨.slice (some ⟨vb, vo, none⟩) N vc, (by show _ = Act.put _ (some 134) _; simp only [putAll, Act.put, List.setIfInBounds_toArray, List.set_cons_succ, List.set_cons_zero, *]; all_goals rfl), rfl, E2.refl _ _ _, HX.out⟩
                  refine AllF.step (m := 13) (j := 3) rfl ?_ ?_
                  · intro D f w1 hD hB hR hp hcl hX
                    have HX := Lib.hid hX
                    have HC := Lib.hid hcl
                    have HB := Lib.hid hB
                    have HD := Lib.hid hD
                    clear hX hcl hB hD hR hp
                    refine wpOp_step rfl (fun K hK => ?_)
                    simp only [putAll, Act.put, List.setIfInBounds_toArray, List.set_cons_succ, List.set_cons_zero]
                    go_simp
                    exact hK _ _ ⟨.int .i64 (y : Int), (by show _ = Act.put _ (some 135) _; simp only [putAll, Act.put, List.setIfInBounds_toArray, List.set_cons_succ, List.set_cons_zero, *]; all_goals rfl), rfl, E2.refl _ _ _, HX.out⟩
                  refine AllF.step (m := 12) (j := 4) rfl ?_ ?_
                  · intro D f w1 hD hB hR hp hcl hX
                    have e1 : f 134 = .slice (some ⟨vb, vo, none⟩) N vc := (hpAt hp 1 (by kernel_rfl)).2
                    have e2 : f 135 = .int .i64 (y : Int) := (hpAt hp 2 (by kernel_rfl)).2
                    have HX := Lib.hid hX
                    have HC := Lib.hid hcl
                    have HB := Lib.hid hB
                    have HD := Lib.hid hD
                    clear hX hcl hB hD hR hp
                    refine wpOp_step rfl (fun K hK => ?_)
                    simp only [putAll, Act.put, List.setIfInBounds_toArray, List.set_cons_succ, List.set_cons_zero]
                    go_simp
                    exact hK _ _ ⟨.pointer (some ⟨vb, vo + y * 3, none⟩), (by show _ = Act.put _ (some 136) _; simp only [putAll, Act.put, List.setIfInBounds_toArray, List.set_cons_succ, List.set_cons_zero, *]; all_goals rfl), rfl, E2.refl _ _ _, HX.out⟩
                  refine AllF.step (m := 11) (j := 5) rfl ?_ ?_
                  · intro D f w1 hD hB hR hp hcl hX
                    have e3 : f 136 = .pointer (some ⟨vb, vo + y * 3, none⟩) := (hpAt hp 3 (by kernel_rfl)).2
                    obtain ⟨j0, j1, j2⟩ := KV.out w1 hB
                    have HX := Lib.hid hX
                    have HC := Lib.hid hcl
                    have HB := Lib.hid hB
                    have HD := Lib.hid hD
                    clear hX hcl hB hD hR hp
                    refine wpOp_step rfl (fun K hK => ?_)
                    simp only [putAll, Act.put, List.setIfInBounds_toArray, List.set_cons_succ, List.set_cons_zero]
                    go_simp
                    exact hK _ _ ⟨.agg #[.bool r1.s, .slice r1.ao r1.n r1.ca, .slice r1.bo r1.m r1.cb], (by show _ = Act.put _ (some 137) _; simp only [putAll, Act.put, List.setIfInBounds_toArray, List.set_cons_succ, List.set_cons_zero, *]; all_goals rfl), rfl, E2.refl _ _ _, HX.out⟩
                  refine AllF.step (m := 10) (j := 6) rfl ?_ ?_
                  · intro D f w1 hD hB hR hp hcl hX
                    have e4 : f 137 = .agg #[.bool r1.s, .slice r1.ao r1.n r1.ca, .slice r1.bo r1.m r1.cb] := (hpAt hp 4 (by kernel_rfl)).2
                    have hs1 : Hid (W.heap.size ≤ w1.heap.size) := hB.2.2.2.1
                    have HX := Lib.hid hX
                    have HC := Lib.hid hcl
                    have HB := Lib.hid hB
                    have HD := Lib.hid hD
                    clear hX hcl hB hD hR hp
                    refine wpOp_step rfl (fun K hK => ?_)
                    simp only [putAll, Act.put, List.setIfInBounds_toArray, List.set_cons_succ, List.set_cons_zero]
                    go_simp
                    refine hK _ _ ⟨.slice (some ⟨w1.heap.size, 0, none⟩) 1 1, (by show _ = Act.put _ (some 138) _; simp only [putAll, Act.put, List.setIfInBounds_toArray, List.set_cons_succ, List.set_cons_zero, *]; all_goals rfl), ⟨w1.heap.size, rfl, hs1.out, heap_alloc_new _ _⟩, E2.of_below (below_new _ _), ?_⟩
                    exact X30.below HX.out (below_new _ _)
                  refine AllF.step (m := 9) (j := 7) rfl ?_ ?_
                  · intro D f w1 hD hB hR hp hcl hX
                    have e0 : f 133 = v := (hpAt hp 0 (by kernel_rfl)).2
                    obtain ⟨gl, eg, hgl, hcl2⟩ := (hpAt hp 5 (by kernel_rfl)).2
                    replace eg : f 138 = _ := eg
                    have h13 : D 13 = false := noF (hcl 13) (by kernel_rfl) hD
                    have h14 : D 14 = false := noF (hcl 14) (by kernel_rfl) hD
                    have h15 : D 15 = false := noF (hcl 15) (by kernel_rfl) hD
                    have HH : Hid (upd D 6 13 = false ∧ upd D 6 14 = false ∧ upd D 6 15 = false) := ⟨h13, h14, h15⟩
                    have hx1 := hX.1 hD
                    have hx2 := hX.2.2.1 h13
                    have hx5 := hX.2.2.2.2.1 h14
                    have hx7 := hX.2.2.2.2.2.2.1 h15
                    have HX1 := Lib.hid hx1
                    have HX2 := Lib.hid hx2
                    have HX5 := Lib.hid hx5
                    have HX7 := Lib.hid hx7
                    have HCC := Lib.hid hcl2
                    have hs1 : Hid (W.heap.size ≤ w1.heap.size) := hB.2.2.2.1
                    clear hx1 hx2 hx5 hx7 h13 h14 h15 hcl2
                    have HX := Lib.hid hX
                    have HC := Lib.hid hcl
                    have HB := Lib.hid hB
                    have HD := Lib.hid hD
                    clear hX hcl hB hD hR hp
                    refine wpOp_step rfl (fun K hK => ?_)
                    simp only [putAll, Act.put, List.setIfInBounds_toArray, List.set_cons_succ, List.set_cons_zero]
                    rw [if_pos (by simp [Region.wanted])]
                    refine wp_own_at w1 (.tmp 133) (.tmp 138) 27 (by rfl) M 32 r0 (.agg #[.bool false, .slice none 0 0, .slice none 0 0]) 3 56 Tryz.underlying27 HRI.out.1 HRI.out.2.1 HRI.out.2.2.1 HRI.out.2.2.2 rfl (by decide) v i xs1 (by simp [Act.eval, e0]) HX1.out ⟨gl, 0, none⟩ 1 1 [.bool r1.s, .slice r1.ao r1.n r1.ca, .slice r1.bo r1.m r1.cb] (by simp [Act.eval, eg]) rfl (World.news_of_block HCC.out) (by intro u hu; simp at hu; rcases hu with rfl | rfl | rfl <;> rfl) (by unfold maxLen; omega) (by omega) (Nat.le_trans hMW.out hs1.out) ?_; intro v4 w4 hown4 hgr4 hat4; obtain ⟨a4, c4, rfl⟩ := row_n hown4
                    have hap : ∀ k, (Value.slice a4 (i + 1) c4).ownBlock = some k → u.ownBlock ≠ some k := fun k hk hk2 => by
                      rcases hat4 with e | e
                      · exact HAP.out k (by rw [← e]; exact hk) hk2
                      · rw [hk] at e; have := Option.some.inj e; have := huW.out k hk2; have := hs1.out; omega
                    have hrow2 : w4.ownsRow M 32 3 u i xs2 := HX2.out.kept hgr4 (by
                      cases hu : u.ownBlock with
                      | none => exact .inl rfl
                      | some k => exact .inr (fun q => HAP.out k q.symm hu))
                    refine hK _ _ ⟨.slice a4 (i + 1) c4, (by show _ = Act.put _ (some 139) _; simp only [putAll, Act.put, List.setIfInBounds_toArray, List.set_cons_succ, List.set_cons_zero, *]; all_goals rfl), trivial, E2.of_row1 hgr4, ?_⟩
                    show X30 _ _ _ _ _ _ _ _ true (upd D 6 13) (upd D 6 14) (upd D 6 15) _ _ _ _ _
                    rw [HH.out.1, HH.out.2.1, HH.out.2.2]
                    exact ⟨fun h => (by cases h), fun _ => ⟨a4, c4, rfl, hown4, hap⟩, fun _ => hrow2, fun h => (by cases h), fun _ => HX5.out, fun h => (by cases h), fun _ => HX7.out, fun h => (by cases h)⟩
                  refine AllF.step (m := 8) (j := 8) rfl ?_ ?_
                  · intro D f w1 hD hB hR hp hcl hX
                    have h15 : D 15 = false := noF (hcl 15) (by kernel_rfl) hD
                    have e17 : f 17 = u := hX.2.2.2.2.2.2.1 h15
                    clear h15
                    have HX := Lib.hid hX
                    have HC := Lib.hid hcl
                    have HB := Lib.hid hB
                    have HD := Lib.hid hD
                    clear hX hcl hB hD hR hp
                    refine wpOp_step rfl (fun K hK => ?_)
                    simp only [putAll, Act.put, List.setIfInBounds_toArray, List.set_cons_succ, List.set_cons_zero]
                    go_simp
                    exact hK _ _ ⟨u, (by show _ = Act.put _ (some 140) _; simp only [putAll, Act.put, List.setIfInBounds_toArray, List.set_cons_succ, List.set_cons_zero, *]; all_goals rfl), rfl, E2.refl _ _ _, HX.out⟩
                  refine AllF.step (m := 7) (j := 9) rfl ?_ ?_
                  · intro D f w1 hD hB hR hp hcl hX
                    have HX := Lib.hid hX
                    have HC := Lib.hid hcl
                    have HB := Lib.hid hB
                    have HD := Lib.hid hD
                    clear hX hcl hB hD hR hp
                    refine wpOp_step rfl (fun K hK => ?_)
                    simp only [putAll, Act.put, List.setIfInBounds_toArray, List.set_cons_succ, List.set_cons_zero]
                    go_simp
                    exact hK _ _ ⟨.slice (some ⟨pb, po, none⟩) N pc, (by show _ = Act.put _ (some 141) _; simp only [putAll, Act.put, List.setIfInBounds_toArray, List.set_cons_succ, List.set_cons_zero, *]; all_goals rfl), rfl, E2.refl _ _ _, HX.out⟩
                  refine AllF.step (m := 6) (j := 10) rfl ?_ ?_
                  · intro D f w1 hD hB hR hp hcl hX
                    have HX := Lib.hid hX
                    have HC := Lib.hid hcl
                    have HB := Lib.hid hB
                    have HD := Lib.hid hD
                    clear hX hcl hB hD hR hp
                    refine wpOp_step rfl (fun K hK => ?_)
                    simp only [putAll, Act.put, List.setIfInBounds_toArray, List.set_cons_succ, List.set_cons_zero]
                    go_simp
                    exact hK _ _ ⟨.int .i64 (y : Int), (by show _ = Act.put _ (some 142) _; simp only [putAll, Act.put, List.setIfInBounds_toArray, List.set_cons_succ, List.set_cons_zero, *]; all_goals rfl), rfl, E2.refl _ _ _, HX.out⟩
                  refine AllF.step (m := 5) (j := 11) rfl ?_ ?_
                  · intro D f w1 hD hB hR hp hcl hX
                    have e8 : f 141 = .slice (some ⟨pb, po, none⟩) N pc := (hpAt hp 8 (by kernel_rfl)).2
                    have e9 : f 142 = .int .i64 (y : Int) := (hpAt hp 9 (by kernel_rfl)).2
                    have HX := Lib.hid hX
                    have HC := Lib.hid hcl
                    have HB := Lib.hid hB
                    have HD := Lib.hid hD
                    clear hX hcl hB hD hR hp
                    refine wpOp_step rfl (fun K hK => ?_)
                    simp only [putAll, Act.put, List.setIfInBounds_toArray, List.set_cons_succ, List.set_cons_zero]
                    go_simp
                    exact hK _ _ ⟨.pointer (some ⟨pb, po + y * 3, none⟩), (by show _ = Act.put _ (some 143) _; simp only [putAll, Act.put, List.setIfInBounds_toArray, List.set_cons_succ, List.set_cons_zero, *]; all_goals rfl), rfl, E2.refl _ _ _, HX.out⟩
                  refine AllF.step (m := 4) (j := 12) rfl ?_ ?_
                  · intro D f w1 hD hB hR hp hcl hX
                    have e10 : f 143 = .pointer (some ⟨pb, po + y * 3, none⟩) := (hpAt hp 10 (by kernel_rfl)).2
                    obtain ⟨j0, j1, j2⟩ := KP.out w1 hB
                    have HX := Lib.hid hX
                    have HC := Lib.hid hcl
                    have HB := Lib.hid hB
                    have HD := Lib.hid hD
                    clear hX hcl hB hD hR hp
                    refine wpOp_step rfl (fun K hK => ?_)
                    simp only [putAll, Act.put, List.setIfInBounds_toArray, List.set_cons_succ, List.set_cons_zero]
                    go_simp
                    exact hK _ _ ⟨.agg #[.bool r2.s, .slice r2.ao r2.n r2.ca, .slice r2.bo r2.m r2.cb], (by show _ = Act.put _ (some 144) _; simp only [putAll, Act.put, List.setIfInBounds_toArray, List.set_cons_succ, List.set_cons_zero, *]; all_goals rfl), rfl, E2.refl _ _ _, HX.out⟩
                  refine AllF.step (m := 3) (j := 13) rfl ?_ ?_
                  · intro D f w1 hD hB hR hp hcl hX
                    have e11 : f 144 = .agg #[.bool r2.s, .slice r2.ao r2.n r2.ca, .slice r2.bo r2.m r2.cb] := (hpAt hp 11 (by kernel_rfl)).2
                    have hs1 : Hid (W.heap.size ≤ w1.heap.size) := hB.2.2.2.1
                    have HX := Lib.hid hX
                    have HC := Lib.hid hcl
                    have HB := Lib.hid hB
                    have HD := Lib.hid hD
                    clear hX hcl hB hD hR hp
                    refine wpOp_step rfl (fun K hK => ?_)
                    simp only [putAll, Act.put, List.setIfInBounds_toArray, List.set_cons_succ, List.set_cons_zero]
                    go_simp
                    refine hK _ _ ⟨.slice (some ⟨w1.heap.size, 0, none⟩) 1 1, (by show _ = Act.put _ (some 145) _; simp only [putAll, Act.put, List.setIfInBounds_toArray, List.set_cons_succ, List.set_cons_zero, *]; all_goals rfl), ⟨w1.heap.size, rfl, hs1.out, heap_alloc_new _ _⟩, E2.of_below (below_new _ _), ?_⟩
                    exact X30.below HX.out (below_new _ _)
                  refine AllF.step (m := 2) (j := 14) rfl ?_ ?_
                  · intro D f w1 hD hB hR hp hcl hX
                    have e7 : f 140 = u := (hpAt hp 7 (by kernel_rfl)).2
                    obtain ⟨gl, eg, hgl, hcl2⟩ := (hpAt hp 12 (by kernel_rfl)).2
                    replace eg : f 145 = _ := eg
                    have h6 : D 6 = true := (hpAt hp 6 (by kernel_rfl)).1
                    have h14 : D 14 = false := noF (hcl 14) (by kernel_rfl) hD
                    have h15 : D 15 = false := noF (hcl 15) (by kernel_rfl) hD
                    have HH : Hid (upd D 13 6 = true ∧ upd D 13 14 = false ∧ upd D 13 15 = false) := ⟨h6, h14, h15⟩
                    obtain ⟨a1, c1, e139, hr1, hk1⟩ := hX.2.1 h6
                    have hx2 := hX.2.2.1 hD
                    have hx5 := hX.2.2.2.2.1 h14
                    have hx7 := hX.2.2.2.2.2.2.1 h15
                    have HR1 := Lib.hid hr1
                    have HK1 := Lib.hid hk1
                    have HX2 := Lib.hid hx2
                    have HX5 := Lib.hid hx5
                    have HX7 := Lib.hid hx7
                    have HE1 := Lib.hid e139
                    have HCC := Lib.hid hcl2
                    have hs1 : Hid (W.heap.size ≤ w1.heap.size) := hB.2.2.2.1
                    clear hr1 hk1 hx2 hx5 hx7 h6 h14 h15 hcl2 e139
                    have HX := Lib.hid hX
                    have HC := Lib.hid hcl
                    have HB := Lib.hid hB
                    have HD := Lib.hid hD
                    clear hX hcl hB hD hR hp
                    refine wpOp_step rfl (fun K hK => ?_)
                    simp only [putAll, Act.put, List.setIfInBounds_toArray, List.set_cons_succ, List.set_cons_zero]
                    rw [if_pos (by simp [Region.wanted])]
                    refine wp_own_at w1 (.tmp 140) (.tmp 145) 27 (by rfl) M 32 r0 (.agg #[.bool false, .slice none 0 0, .slice none 0 0]) 3 56 Tryz.underlying27 HRI.out.1 HRI.out.2.1 HRI.out.2.2.1 HRI.out.2.2.2 rfl (by decide) u i xs2 (by simp [Act.eval, e7]) HX2.out ⟨gl, 0, none⟩ 1 1 [.bool r2.s, .slice r2.ao r2.n r2.ca, .slice r2.bo r2.m r2.cb] (by simp [Act.eval, eg]) rfl (World.news_of_block HCC.out) (by intro u hu; simp at hu; rcases hu with rfl | rfl | rfl <;> rfl) (by unfold maxLen; omega) (by omega) (Nat.le_trans hMW.out hs1.out) ?_; intro v4 w4 hown4 hgr4 hat4; obtain ⟨a4, c4, rfl⟩ := row_n hown4
                    have hap : ∀ k, (Value.slice a4 (i + 1) c4).ownBlock = some k → v.ownBlock ≠ some k := fun k hk hk2 => by
                      rcases hat4 with e | e
                      · exact HAP.out k hk2 (by rw [← e]; exact hk)
                      · rw [hk] at e; have := Option.some.inj e; have := hvW.out k hk2; have := hs1.out; omega
                    have hap2 : ∀ k, (f 139).ownBlock = some k → (Value.slice a4 (i + 1) c4).ownBlock ≠ some k := fun k hk hk2 => by
                      rcases hat4 with e | e
                      · exact HK1.out k hk (by rw [← e]; exact hk2)
                      · rw [hk2] at e; have := Option.some.inj e; rw [HE1.out] at hk; have := (HR1.out.lt k hk).2; omega
                    have hrow1 : w4.ownsRow M 32 3 (.slice a1 (i + 1) c1) (i + 1) (xs1 ++ [.bool r1.s, .slice r1.ao r1.n r1.ca, .slice r1.bo r1.m r1.cb]) := HR1.out.kept hgr4 (by
                      cases hu : (Value.slice a1 (i + 1) c1).ownBlock with
                      | none => exact .inl rfl
                      | some k => exact .inr (fun q => HK1.out k (by rw [HE1.out]; exact hu) q.symm))
                    refine hK _ _ ⟨.slice a4 (i + 1) c4, (by show _ = Act.put _ (some 146) _; simp only [putAll, Act.put, List.setIfInBounds_toArray, List.set_cons_succ, List.set_cons_zero, *]; all_goals rfl), trivial, E2.of_row2 hgr4, ?_⟩
                    show X30 _ _ _ _ _ _ _ _ (upd D 13 6) true (upd D 13 14) (upd D 13 15) _ _ _ _ _
                    rw [HH.out.1, HH.out.2.1, HH.out.2.2]
                    exact ⟨fun h => (by cases h), fun _ => ⟨a1, c1, HE1.out, hrow1, HK1.out⟩, fun h => (by cases h), fun _ => ⟨⟨a4, c4, rfl, hown4, hap⟩, hap2⟩, fun _ => HX5.out, fun h => (by cases h), fun _ => HX7.out, fun h => (by cases h)⟩
                  refine AllF.step (m := 1) (j := 15) rfl ?_ ?_
                  · intro D f w1 hD hB hR hp hcl hX
                    have h13 : D 13 = true := (hpAt hp 13 (by kernel_rfl)).1
                    have h6 : D 6 = true := by have := hcl 13 h13 6 (by decide); exact this
                    have h15 : D 15 = false := noF (hcl 15) (by kernel_rfl) hD
                    have HH : Hid (upd D 14 6 = true ∧ upd D 14 13 = true ∧ upd D 14 15 = false) := ⟨h6, h13, h15⟩
                    have hrb := hX.2.1 h6
                    obtain ⟨a1, c1, e139, hr1, hk1⟩ := id hrb
                    have HRB := Lib.hid hrb
                    have HX4 := Lib.hid (hX.2.2.2.1 h13)
                    have HX7 := Lib.hid (hX.2.2.2.2.2.2.1 h15)
                    have HE1 := Lib.hid e139
                    clear hrb hr1 hk1 h6 h13 h15
                    have HX := Lib.hid hX
                    have HC := Lib.hid hcl
                    have HB := Lib.hid hB
                    have HD := Lib.hid hD
                    clear hX hcl hB hD hR hp
                    refine wpOp_step rfl (fun K hK => ?_)
                    simp only [putAll, Act.put, List.setIfInBounds_toArray, List.set_cons_succ, List.set_cons_zero]
                    go_simp
                    refine hK _ _ ⟨.slice a1 (i + 1) c1, (by show _ = Act.put _ (some 16) _; simp only [putAll, Act.put, List.setIfInBounds_toArray, List.set_cons_succ, List.set_cons_zero, *]; all_goals rfl), trivial, E2.refl _ _ _, ?_⟩
                    show X30 _ _ _ _ _ _ _ _ (upd D 14 6) (upd D 14 13) true (upd D 14 15) _ _ _ _ _
                    rw [HH.out.1, HH.out.2.1, HH.out.2.2]
                    exact ⟨fun h => (by cases h), fun _ => HRB.out, fun h => (by cases h), fun _ => HX4.out, fun h => (by cases h), fun _ => HE1.out.symm, fun _ => HX7.out, fun h => (by cases h)⟩
                  refine AllF.step (m := 0) (j := 16) rfl ?_ ?_
                  · intro D f w1 hD hB hR hp hcl hX
                    have h14 : D 14 = true := (hpAt hp 14 (by kernel_rfl)).1
                    have h13 : D 13 = true := by have := hcl 14 h14 13 (by decide); exact this
                    have h6 : D 6 = true := by have := hcl 14 h14 6 (by decide); exact this
                    have HH : Hid (upd D 15 6 = true ∧ upd D 15 13 = true ∧ upd D 15 14 = true) := ⟨h6, h13, h14⟩
                    have hrb := hX.2.2.2.1 h13
                    obtain ⟨a2, c2, e146, hr2, hk2⟩ := id hrb.1
                    have HRB := Lib.hid hrb
                    have HX2 := Lib.hid (hX.2.1 h6)
                    have HX6 := Lib.hid (hX.2.2.2.2.2.1 h14)
                    have HE2 := Lib.hid e146
                    clear hrb hr2 hk2 h6 h13 h14
                    have HX := Lib.hid hX
                    have HC := Lib.hid hcl
                    have HB := Lib.hid hB
                    have HD := Lib.hid hD
                    clear hX hcl hB hD hR hp
                    refine wpOp_step rfl (fun K hK => ?_)
                    simp only [putAll, Act.put, List.setIfInBounds_toArray, List.set_cons_succ, List.set_cons_zero]
                    go_simp
                    refine hK _ _ ⟨.slice a2 (i + 1) c2, (by show _ = Act.put _ (some 17) _; simp only [putAll, Act.put, List.setIfInBounds_toArray, List.set_cons_succ, List.set_cons_zero, *]; all_goals rfl), trivial, E2.refl _ _ _, ?_⟩
                    show X30 _ _ _ _ _ _ _ _ (upd D 15 6) (upd D 15 13) (upd D 15 14) true _ _ _ _ _
                    rw [HH.out.1, HH.out.2.1, HH.out.2.2]
                    exact ⟨fun h => (by cases h), fun _ => HX2.out, fun h => (by cases h), fun _ => HRB.out, fun h => (by cases h), fun _ => HX6.out, fun h => (by cases h), fun _ => HE2.out.symm⟩
                  exact trivial
                · intro D f w1 hall hB hR hX
                  have hx := hX
                  rw [hall 6 (by decide), hall 13 (by decide), hall 14 (by decide), hall 15 (by decide)] at hx
                  obtain ⟨a3, c3, e139, hr3, -⟩ := hx.2.1 rfl
                  obtain ⟨⟨a5, c5, e146, hr5, -⟩, hap5⟩ := hx.2.2.2.1 rfl
                  have e16 : f 16 = .slice a3 (i + 1) c3 := (hx.2.2.2.2.2.1 rfl).trans e139
                  have e17 : f 17 = .slice a5 (i + 1) c5 := (hx.2.2.2.2.2.2.2 rfl).trans e146
                  rw [HX1.out, HMM.out] at hr3
                  rw [HX2.out, HMM.out] at hr5
                  rw [e139, e146] at hap5
                  have HR3 := Lib.hid hr3
                  have HR5 := Lib.hid hr5
                  have HA5 : Hid (∀ k, (Value.slice a3 (i + 1) c3).ownBlock = some k → (Value.slice a5 (i + 1) c5).ownBlock ≠ some k) := hap5
                  have HBl := Lib.hid (HE.out w1 hB)
                  clear hx hr3 hr5 hap5 e139 e146 hX hR hall hB HO1 HO2 HAP KV KP HE
                  simp only [putAll, Act.put, List.setIfInBounds_toArray, List.set_cons_succ, List.set_cons_zero, e16, e17]
                  clear e16 e17
                  go_wp2_with fail
                  go_roundw
                  case rel => exact ⟨i + 1, .slice a3 (i + 1) c3, .slice a5 (i + 1) c5, by omega, by go_num, rfl, rfl, HR3, HR5, HA5, HBl⟩
                  case measure => simp [intOf]; omega
              · obtain rfl : i = m := by omega
                have hli2 : ¬ (i : Int) < (i : Int) := by omega
                have htk : (DB j).take i = DB j := List.take_of_length_le (by rw [HDL.out]; exact Nat.le_refl _)
                have hrow1 := hown.out
                have hrow2 := hownu.out
                rw [htk] at hrow1 hrow2
                obtain ⟨sa, sc, hse, hsr⟩ := RdR.of_row hrow1
                obtain ⟨ca, cc, hce, hcr⟩ := RdR.of_row hrow2
                rw [List.length_map, HDL.out] at hse hce
                subst hse hce
                have hDN : ∀ u ∈ DB j, u < N := fun u hu => by
                  obtain ⟨x, hx, rfl⟩ := List.mem_iff_getElem.1 hu
                  have := PT.out.dlt j hlt x (by rw [← HDL.out]; exact hx)
                  simpa [List.getD, hx] using this
                have hW4 : Below W4.heap.size W4 wr := by rw [← HGM.out]; exact HBW.out
                have hq1 : Ls wr ((DB j).map (fun u => rs.getD u RV.nil)) ((DB j).map V) 2 := by
                  have h := ls_pick (HV4.out wr hW4).2 (DB j) (fun u hu => by rw [HRL.out]; exact hDN u hu)
                  rwa [show (fun u => qv.getD u 0) = V from funext (fun u => (HVQ.out u).symm)] at h
                have hq2 : Ls wr ((DB j).map (fun u => ps.getD u RV.nil)) ((DB j).map Q) 2 := by
                  have h := ls_pick (HPL.out wr hW4) (DB j) (fun u hu => by rw [HPS.out]; exact hDN u hu)
                  rwa [List.map_congr_left (fun u hu => show ((List.range N).map Q).getD u 0 = Q u by simp [List.getD, hDN u hu])] at h
                have EST := Estimate_b ((DB j).map V) ((DB j).map Q) sa ca sc cc _ _ wr hsr hcr hq1 hq2 (by rw [List.length_map, HDL.out]; omega) (by rw [List.length_map, HDL.out]; omega)
                obtain ⟨ee, eq⟩ := est_draw (V := V) (Q := Q) (l := DB j) (by rw [HDL.out]; omega) (fun u hu => GD.out u (hDN u hu))
                rw [ee, eq, List.length_map, List.length_map, HDL.out] at EST
                obtain ⟨XQ, hXQ⟩ : ∃ x, x = qsum ((DB j).map (fun u => V u / Q u)) := ⟨_, rfl⟩
                rw [← hXQ] at EST
                have EST := Lib.hid EST
                have HXQ := Lib.hid hXQ
                obtain ⟨MQ, hMQ⟩ : ∃ x, x = meanQ (fun u => V u / Q u) ac A N j := ⟨_, rfl⟩
                obtain ⟨KN0, hKN0⟩ : ∃ k, k = kq 8200193 j := ⟨_, rfl⟩
                have hmn : Hid (MQ + XQ * QL = meanQ (fun u => V u / Q u) ac A N (j + 1)) := by unfold Hid; rw [mean_succ PT.out _ hlt (FT.out j), hMQ, hXQ, HQL.out]
                have hmeanw : Hid (∃ s a n c o m' d, wr.heap[gm]? = some (.cells #[.bool s, .slice a n c, .slice o m' d] 32 (0, 0)) ∧ CQ 0 wr s a n c o m' d MQ KN0) := by
                  obtain ⟨s, a, n, c, o, m', d, h1, h2⟩ := hmean9.out
                  rw [hMQ, hKN0]
                  exact ⟨s, a, n, c, o, m', d, carry h1 hbl2.out, h2.below hbl2.out⟩
                have XTw : Hid (wr.heap[g5]? = some (.cells #[.bool st, .slice at' nt' ct, .slice ot mt dt] 32 (0, 0))) := carry X9.out hbl2.out
                have CTw : Hid (CQ 0 wr st at' nt' ct ot mt dt (fq (bd (j + 1)) A) 2) := CQ9.out.below hbl2.out
                have hwgw : Hid (gm < wr.heap.size) := Nat.lt_of_lt_of_le hwg9.out hbl2.out.size
                have HKN : Hid (KN0 = kq 8200193 j) := hKN0
                clear htk hrow1 hrow2 hsr hcr hDN hW4 hq1 hq2 ee eq hXQ hMQ hKN0 hown hownu hap hbl hbl2
                go_wp2_with fail
                refine EST.out.mono ?_; rintro e w8 ⟨k8, sx, ax, nx, cx, ox, mx, dx, hk8, rfl, cq8, b8⟩
                obtain ⟨W8, hW8⟩ : ∃ W, W = w8.alloc (.cells #[.bool sx, .slice ax nx cx, .slice ox mx dx] 32) := ⟨_, rfl⟩
                obtain ⟨g8, hg8⟩ : ∃ g, g = w8.heap.size := ⟨_, rfl⟩
                have n8 : Below w8.heap.size w8 W8 := by rw [hW8]; exact below_new _ _
                have x8 : W8.heap[g8]? = some (.cells #[.bool sx, .slice ax nx cx, .slice ox mx dx] 32 (0, 0)) := by rw [hW8, hg8]; exact heap_alloc_new _ _
                have b88 := b8.trans (n8.mono b8.size)
                obtain ⟨wr, hwr⟩ : ∃ W, W = W8 := ⟨_, rfl⟩
                have HBW8 : Hid (Below gm W4 wr) := by rw [hwr]; exact HBW.out.trans (b88.mono (Nat.le_of_lt hwgw.out))
                have hgmw : Hid (gm < wr.heap.size) := by rw [hwr]; exact Nat.lt_of_lt_of_le hwgw.out b88.size
                obtain ⟨sm, am, nm, cm, om, mm, dm, xm0, cqm⟩ := hmeanw.out
                have XM0 : Hid (wr.heap[gm]? = some (.cells #[.bool sm, .slice am nm cm, .slice om mm dm] 32 (0, 0))) := by rw [hwr]; exact carry xm0 b88
                have CM0 : Hid (CQ 0 wr sm am nm cm om mm dm MQ KN0) := by rw [hwr]; exact cqm.below b88
                have KM : Hid (∀ w', Below wr.heap.size wr w' → w'.cell? ⟨gm, 0, none⟩ = some (.bool sm) ∧ w'.cell? ⟨gm, 1, none⟩ = some (.slice am nm cm) ∧ w'.cell? ⟨gm, 2, none⟩ = some (.slice om mm dm)) := fun w' hb => by
                  obtain ⟨k0, k1, k2, _⟩ := at_block (carry XM0.out hb)
                  exact ⟨k0, k1, k2⟩
                have KX : Hid (∀ w', Below wr.heap.size wr w' → w'.cell? ⟨g8, 0, none⟩ = some (.bool sx) ∧ w'.cell? ⟨g8, 1, none⟩ = some (.slice ax nx cx) ∧ w'.cell? ⟨g8, 2, none⟩ = some (.slice ox mx dx)) := fun w' hb => by
                  obtain ⟨k0, k1, k2, _⟩ := at_block (carry (show wr.heap[g8]? = _ by rw [hwr]; exact x8) hb)
                  exact ⟨k0, k1, k2⟩
                have xt8 : Hid (wr.heap[g5]? = some (.cells #[.bool st, .slice at' nt' ct, .slice ot mt dt] 32 (0, 0))) := by rw [hwr]; exact carry XTw.out b88
                have KT : Hid (∀ w', Below wr.heap.size wr w' → w'.cell? ⟨g5, 0, none⟩ = some (.bool st) ∧ w'.cell? ⟨g5, 1, none⟩ = some (.slice at' nt' ct) ∧ w'.cell? ⟨g5, 2, none⟩ = some (.slice ot mt dt)) := fun w' hb => by
                  obtain ⟨k0, k1, k2, _⟩ := at_block (carry xt8.out hb)
                  exact ⟨k0, k1, k2⟩
                have ct8 : CQ 0 wr st at' nt' ct ot mt dt (fq (bd (j + 1)) A) 2 := by rw [hwr]; exact CTw.out.below b88
                have cx8 : CQ 0 wr sx ax nx cx ox mx dx XQ k8 := by rw [hwr]; exact (cq8.mono (Nat.zero_le _)).below n8
                have KR : Hid (∀ w', Below wr.heap.size wr w' → At3 w' bb (bo + j * 3) r) := fun w' hb => (HR.out w' (HBW8.out.trans (hb.mono (Nat.le_of_lt hgmw.out)))).1
                have SB : Hid (∀ w', Below wr.heap.size wr w' → Calls Tryz.prog 13 #[.agg #[.bool st, .slice at' nt' ct, .slice ot mt dt], .agg #[.bool r.s, .slice r.ao r.n r.ca, .slice r.bo r.m r.cb]] w' (MakesQ QL (2 + 2 + 1) w')) := fun w' hb => by
                  rw [← hSub.out]
                  exact rSub_q _ _ _ _ _ _ _ _ _ _ _ _ _ _ 2 _ _ w' (ct8.below hb).rq (HR.out w' (HBW8.out.trans (hb.mono (Nat.le_of_lt hgmw.out)))).2.rq (by omega)
                have ML : Hid (∀ w', Below wr.heap.size wr w' → ∀ t po n' ca' qo l cb', RQ w' t po n' ca' qo l cb' QL 2 → Calls Tryz.prog 12 #[.agg #[.bool sx, .slice ax nx cx, .slice ox mx dx], .agg #[.bool t, .slice po n' ca', .slice qo l cb']] w' (MakesQ (XQ * QL) 8200193 w')) := fun w' hb t po n' ca' qo l cb' h1 =>
                  rMul_q _ _ _ _ _ _ _ _ _ _ _ _ _ _ 4100096 _ _ w' ((cx8.below hb).rq.up hk8 (by omega)) (h1.up (by omega) (by omega)) (by omega)
                have AD : Hid (∀ w', Below wr.heap.size wr w' → ∀ t po n' ca' qo l cb', RQ w' t po n' ca' qo l cb' (XQ * QL) 8200193 → Calls Tryz.prog 11 #[.agg #[.bool sm, .slice am nm cm, .slice om mm dm], .agg #[.bool t, .slice po n' ca', .slice qo l cb']] w' (MakesQ (MQ + XQ * QL) (KN0 + KN0 + 1) w')) := fun w' hb t po n' ca' qo l cb' h1 => by
                  have h9 := kq_top (i := j) (by omega)
                  have h8 := kq_ge 8200193 j
                  rw [← HKN.out] at h9 h8
                  exact rAdd_q _ _ _ _ _ _ _ _ _ _ _ _ _ _ KN0 _ _ w' (CM0.out.below hb).rq (h1.up h8 (by omega)) h9
                obtain ⟨KN, hKN⟩ : ∃ k, k = KN0 + KN0 + 1 := ⟨_, rfl⟩
                unfold Hid at AD
                rw [← hKN] at AD
                have AD := Lib.hid AD
                have HKK : Hid (KN = kq 8200193 (j + 1)) := by unfold Hid; rw [hKN, HKN.out, kq_succ]
                clear n8 b88 b8 cq8 x8 xm0 cqm ct8 cx8 hKN hmeanw XTw CTw EST
                go_upto_region 35 with fail
                rw [← hW8, ← hwr]
                try rw [← hg8]
                clear hW8 hg8 hwr
                refine wp_region_any (by kernel_rfl) ?_
                refine region_ssa [156, 157, 158, 159, 160, 161, 162, 163, 164, 165] (fun w1 => wr.grownBy w1 (some gm)) (fun w1 w2 => w1.grownBy w2 (some gm)) (LsG [fun v _ => v = .agg #[.bool sm, .slice am nm cm, .slice om mm dm], fun v _ => v = .agg #[.bool sx, .slice ax nx cx, .slice ox mx dx], fun v _ => v = .agg #[.bool st, .slice at' nt' ct, .slice ot mt dt], fun v _ => v = .slice (some ⟨bb, bo, none⟩) L bc, fun v _ => v = .int .i64 (j : Int), fun v _ => v = .pointer (some ⟨bb, bo + j * 3, none⟩), fun v _ => v = .agg #[.bool r.s, .slice r.ao r.n r.ca, .slice r.bo r.m r.cb], kCQk wr.heap.size QL 2, kCQk wr.heap.size (XQ * QL) 8200193, kCQk wr.heap.size (MQ + XQ * QL) KN, fun _ _ => True]) (fun D _ w1 => (D 10 = false → Below wr.heap.size wr w1) ∧ (D 10 = true → ∃ s a n c o m d, w1.heap[gm]? = some (.cells #[.bool s, .slice a n c, .slice o m d] 32 (0, 0)) ∧ CQ wr.heap.size w1 s a n c o m d (MQ + XQ * QL) KN)) (fun f => rfl) (by kernel_rfl) (by kernel_rfl) ?_ ?_ ?_ ?_ (AllF.below (n := 11) ?_) ?_
                · exact ⟨rfl, rfl, rfl, Nat.le_refl _, fun _ _ _ => rfl⟩
                · intro f; exact ⟨fun _ => (Below.refl _ _).drew, fun h => by cases h⟩
                · intro jx vx w1 w2 _ h hE; exact LsG.ext (StGL.all (l := [fun v _ => v = .agg #[.bool sm, .slice am nm cm, .slice om mm dm], fun v _ => v = .agg #[.bool sx, .slice ax nx cx, .slice ox mx dx], fun v _ => v = .agg #[.bool st, .slice at' nt' ct, .slice ot mt dt], fun v _ => v = .slice (some ⟨bb, bo, none⟩) L bc, fun v _ => v = .int .i64 (j : Int), fun v _ => v = .pointer (some ⟨bb, bo + j * 3, none⟩), fun v _ => v = .agg #[.bool r.s, .slice r.ao r.n r.ca, .slice r.bo r.m r.cb], kCQk wr.heap.size QL 2, kCQk wr.heap.size (XQ * QL) 8200193, kCQk wr.heap.size (MQ + XQ * QL) KN, fun _ _ => True]) ⟨StG.val _ _, StG.val _ _, StG.val _ _, StG.val _ _, StG.val _ _, StG.val _ _, StG.val _ _, StG.cqk hgmw.out _ _, StG.cqk hgmw.out _ _, StG.cqk hgmw.out _ _, StG.triv _, trivial⟩) jx vx w1 w2 h hE
                · intro w1 w2 hB hE; exact gb_trans hB hE
                · refine AllF.step (m := 10) (j := 1) rfl ?_ ?_
                  · intro D f w1 hD hB hR hp hcl hX
                    have hj : D 10 = false := noF (hcl 10) (by kernel_rfl) (noF (j := 9) (hcl 9) (by kernel_rfl) hD)
                    obtain ⟨j0, j1, j2⟩ := KM.out w1 (hX.1 hj)
                    have HX := Lib.hid hX
                    have HC := Lib.hid hcl
                    have HB := Lib.hid hB
                    have HD := Lib.hid hD
                    clear hX hcl hB hD hR hp
                    refine wpOp_step rfl (fun K hK => ?_)
                    simp only [putAll, Act.put, List.setIfInBounds_toArray, List.set_cons_succ, List.set_cons_zero]
                    go_simp
                    exact hK _ _ ⟨.agg #[.bool sm, .slice am nm cm, .slice om mm dm], (by show _ = Act.put _ (some 156) _; simp only [putAll, Act.put, List.setIfInBounds_toArray, List.set_cons_succ, List.set_cons_zero, *]; all_goals rfl), rfl, World.grownBy.refl _ _, HX.out⟩
                  refine AllF.step (m := 9) (j := 2) rfl ?_ ?_
                  · intro D f w1 hD hB hR hp hcl hX
                    have hj : D 10 = false := noF (hcl 10) (by kernel_rfl) (noF (j := 9) (hcl 9) (by kernel_rfl) (noF (j := 8) (hcl 8) (by kernel_rfl) hD))
                    obtain ⟨j0, j1, j2⟩ := KX.out w1 (hX.1 hj)
                    have HX := Lib.hid hX
                    have HC := Lib.hid hcl
                    have HB := Lib.hid hB
                    have HD := Lib.hid hD
                    clear hX hcl hB hD hR hp
                    refine wpOp_step rfl (fun K hK => ?_)
                    simp only [putAll, Act.put, List.setIfInBounds_toArray, List.set_cons_succ, List.set_cons_zero]
                    go_simp
                    exact hK _ _ ⟨.agg #[.bool sx, .slice ax nx cx, .slice ox mx dx], (by show _ = Act.put _ (some 157) _; simp only [putAll, Act.put, List.setIfInBounds_toArray, List.set_cons_succ, List.set_cons_zero, *]; all_goals rfl), rfl, World.grownBy.refl _ _, HX.out⟩
                  refine AllF.step (m := 8) (j := 3) rfl ?_ ?_
                  · intro D f w1 hD hB hR hp hcl hX
                    have hj : D 10 = false := noF (hcl 10) (by kernel_rfl) (noF (j := 9) (hcl 9) (by kernel_rfl) (noF (j := 8) (hcl 8) (by kernel_rfl) (noF (j := 7) (hcl 7) (by kernel_rfl) hD)))
                    obtain ⟨j0, j1, j2⟩ := KT.out w1 (hX.1 hj)
                    have HX := Lib.hid hX
                    have HC := Lib.hid hcl
                    have HB := Lib.hid hB
                    have HD := Lib.hid hD
                    clear hX hcl hB hD hR hp
                    refine wpOp_step rfl (fun K hK => ?_)
                    simp only [putAll, Act.put, List.setIfInBounds_toArray, List.set_cons_succ, List.set_cons_zero]
                    go_simp
                    exact hK _ _ ⟨.agg #[.bool st, .slice at' nt' ct, .slice ot mt dt], (by show _ = Act.put _ (some 158) _; simp only [putAll, Act.put, List.setIfInBounds_toArray, List.set_cons_succ, List.set_cons_zero, *]; all_goals rfl), rfl, World.grownBy.refl _ _, HX.out⟩
                  refine AllF.step (m := 7) (j := 4) rfl ?_ ?_
                  · intro D f w1 hD hB hR hp hcl hX
                    have HX := Lib.hid hX
                    have HC := Lib.hid hcl
                    have HB := Lib.hid hB
                    have HD := Lib.hid hD
                    clear hX hcl hB hD hR hp
                    refine wpOp_step rfl (fun K hK => ?_)
                    simp only [putAll, Act.put, List.setIfInBounds_toArray, List.set_cons_succ, List.set_cons_zero]
                    go_simp
                    exact hK _ _ ⟨.slice (some ⟨bb, bo, none⟩) L bc, (by show _ = Act.put _ (some 159) _; simp only [putAll, Act.put, List.setIfInBounds_toArray, List.set_cons_succ, List.set_cons_zero, *]; all_goals rfl), rfl, World.grownBy.refl _ _, HX.out⟩
                  refine AllF.step (m := 6) (j := 5) rfl ?_ ?_
                  · intro D f w1 hD hB hR hp hcl hX
                    have HX := Lib.hid hX
                    have HC := Lib.hid hcl
                    have HB := Lib.hid hB
                    have HD := Lib.hid hD
                    clear hX hcl hB hD hR hp
                    refine wpOp_step rfl (fun K hK => ?_)
                    simp only [putAll, Act.put, List.setIfInBounds_toArray, List.set_cons_succ, List.set_cons_zero]
                    go_simp
                    exact hK _ _ ⟨.int .i64 (j : Int), (by show _ = Act.put _ (some 160) _; simp only [putAll, Act.put, List.setIfInBounds_toArray, List.set_cons_succ, List.set_cons_zero, *]; all_goals rfl), rfl, World.grownBy.refl _ _, HX.out⟩
                  refine AllF.step (m := 5) (j := 6) rfl ?_ ?_
                  · intro D f w1 hD hB hR hp hcl hX
                    have e3 : f 159 = .slice (some ⟨bb, bo, none⟩) L bc := (hpAt hp 3 (by kernel_rfl)).2
                    have e4 : f 160 = .int .i64 (j : Int) := (hpAt hp 4 (by kernel_rfl)).2
                    have HX := Lib.hid hX
                    have HC := Lib.hid hcl
                    have HB := Lib.hid hB
                    have HD := Lib.hid hD
                    clear hX hcl hB hD hR hp
                    refine wpOp_step rfl (fun K hK => ?_)
                    simp only [putAll, Act.put, List.setIfInBounds_toArray, List.set_cons_succ, List.set_cons_zero]
                    go_simp
                    exact hK _ _ ⟨.pointer (some ⟨bb, bo + j * 3, none⟩), (by show _ = Act.put _ (some 161) _; simp only [putAll, Act.put, List.setIfInBounds_toArray, List.set_cons_succ, List.set_cons_zero, *]; all_goals rfl), rfl, World.grownBy.refl _ _, HX.out⟩
                  refine AllF.step (m := 4) (j := 7) rfl ?_ ?_
                  · intro D f w1 hD hB hR hp hcl hX
                    have e5 : f 161 = .pointer (some ⟨bb, bo + j * 3, none⟩) := (hpAt hp 5 (by kernel_rfl)).2
                    have hj : D 10 = false := noF (hcl 10) (by kernel_rfl) (noF (j := 9) (hcl 9) (by kernel_rfl) (noF (j := 8) (hcl 8) (by kernel_rfl) (noF (j := 7) (hcl 7) (by kernel_rfl) hD)))
                    obtain ⟨j0, j1, j2⟩ := KR.out w1 (hX.1 hj)
                    have HX := Lib.hid hX
                    have HC := Lib.hid hcl
                    have HB := Lib.hid hB
                    have HD := Lib.hid hD
                    clear hX hcl hB hD hR hp
                    refine wpOp_step rfl (fun K hK => ?_)
                    simp only [putAll, Act.put, List.setIfInBounds_toArray, List.set_cons_succ, List.set_cons_zero]
                    go_simp
                    exact hK _ _ ⟨.agg #[.bool r.s, .slice r.ao r.n r.ca, .slice r.bo r.m r.cb], (by show _ = Act.put _ (some 162) _; simp only [putAll, Act.put, List.setIfInBounds_toArray, List.set_cons_succ, List.set_cons_zero, *]; all_goals rfl), rfl, World.grownBy.refl _ _, HX.out⟩
                  refine AllF.step (m := 3) (j := 8) rfl ?_ ?_
                  · intro D f w1 hD hB hR hp hcl hX
                    have e2 : f 158 = .agg #[.bool st, .slice at' nt' ct, .slice ot mt dt] := (hpAt hp 2 (by kernel_rfl)).2
                    have e6 : f 162 = .agg #[.bool r.s, .slice r.ao r.n r.ca, .slice r.bo r.m r.cb] := (hpAt hp 6 (by kernel_rfl)).2
                    have hj : D 10 = false := noF (hcl 10) (by kernel_rfl) (noF (j := 9) (hcl 9) (by kernel_rfl) (noF (j := 8) (hcl 8) (by kernel_rfl) hD))
                    have HJ : Hid (upd D 7 10 = false) := hj
                    have HB1 := Lib.hid (hX.1 hj)
                    have hs1 : Hid (wr.heap.size ≤ w1.heap.size) := hB.size
                    have HX := Lib.hid hX
                    have HC := Lib.hid hcl
                    have HB := Lib.hid hB
                    have HD := Lib.hid hD
                    clear hX hcl hB hD hR hp
                    refine wpOp_step rfl (fun K hK => ?_)
                    simp only [putAll, Act.put, List.setIfInBounds_toArray, List.set_cons_succ, List.set_cons_zero]
                    go_simp
                    refine (SB.out w1 HB1.out).mono ?_; rintro e w2 ⟨s9, a9, n9, c9, o9, m9, d9, rfl, cq0, b2⟩; have cq := cq0.resize QS.out.1 QS.out.2
                    go_simp
                    refine hK _ _ ⟨.agg #[.bool s9, .slice a9 n9 c9, .slice o9 m9 d9], (by show _ = Act.put _ (some 163) _; simp only [putAll, Act.put, List.setIfInBounds_toArray, List.set_cons_succ, List.set_cons_zero, *]; all_goals rfl), ⟨s9, a9, n9, c9, o9, m9, d9, rfl, cq.mono hs1.out⟩, C6.below_gb b2 _, ⟨fun _ => ?_, fun h => ?_⟩⟩
                    · exact HB1.out.trans (b2.mono HB1.out.size)
                    · rw [HJ.out] at h; cases h
                  refine AllF.step (m := 2) (j := 9) rfl ?_ ?_
                  · intro D f w1 hD hB hR hp hcl hX
                    have e1 : f 157 = .agg #[.bool sx, .slice ax nx cx, .slice ox mx dx] := (hpAt hp 1 (by kernel_rfl)).2
                    have hj : D 10 = false := noF (hcl 10) (by kernel_rfl) (noF (j := 9) (hcl 9) (by kernel_rfl) hD)
                    have HJ : Hid (upd D 8 10 = false) := hj
                    have HB1 := Lib.hid (hX.1 hj)
                    have hs1 : Hid (wr.heap.size ≤ w1.heap.size) := hB.size
                    obtain ⟨s7, a7, n7, c7, o7, m7, d7, e7, q7⟩ := (hpAt hp 7 (by kernel_rfl)).2
                    replace e7 : f 163 = _ := e7
                    have HX := Lib.hid hX
                    have HC := Lib.hid hcl
                    have HB := Lib.hid hB
                    have HD := Lib.hid hD
                    clear hX hcl hB hD hR hp
                    refine wpOp_step rfl (fun K hK => ?_)
                    simp only [putAll, Act.put, List.setIfInBounds_toArray, List.set_cons_succ, List.set_cons_zero]
                    go_simp
                    refine (ML.out w1 HB1.out _ _ _ _ _ _ _ q7.rq).mono ?_; rintro e w2 ⟨s9, a9, n9, c9, o9, m9, d9, rfl, cq, b2⟩
                    go_simp
                    refine hK _ _ ⟨.agg #[.bool s9, .slice a9 n9 c9, .slice o9 m9 d9], (by show _ = Act.put _ (some 164) _; simp only [putAll, Act.put, List.setIfInBounds_toArray, List.set_cons_succ, List.set_cons_zero, *]; all_goals rfl), ⟨s9, a9, n9, c9, o9, m9, d9, rfl, cq.mono hs1.out⟩, C6.below_gb b2 _, ⟨fun _ => ?_, fun h => ?_⟩⟩
                    · exact HB1.out.trans (b2.mono HB1.out.size)
                    · rw [HJ.out] at h; cases h
                  refine AllF.step (m := 1) (j := 10) rfl ?_ ?_
                  · intro D f w1 hD hB hR hp hcl hX
                    have e0 : f 156 = .agg #[.bool sm, .slice am nm cm, .slice om mm dm] := (hpAt hp 0 (by kernel_rfl)).2
                    have hj : D 10 = false := noF (hcl 10) (by kernel_rfl) hD
                    have HJ : Hid (upd D 9 10 = false) := hj
                    have HB1 := Lib.hid (hX.1 hj)
                    have hs1 : Hid (wr.heap.size ≤ w1.heap.size) := hB.size
                    obtain ⟨s8, a8, n8, c8, o8, m8, d8, e8, q8⟩ := (hpAt hp 8 (by kernel_rfl)).2
                    replace e8 : f 164 = _ := e8
                    have HX := Lib.hid hX
                    have HC := Lib.hid hcl
                    have HB := Lib.hid hB
                    have HD := Lib.hid hD
                    clear hX hcl hB hD hR hp
                    refine wpOp_step rfl (fun K hK => ?_)
                    simp only [putAll, Act.put, List.setIfInBounds_toArray, List.set_cons_succ, List.set_cons_zero]
                    go_simp
                    refine (AD.out w1 HB1.out _ _ _ _ _ _ _ q8.rq).mono ?_; rintro e w2 ⟨s9, a9, n9, c9, o9, m9, d9, rfl, cq, b2⟩
                    go_simp
                    refine hK _ _ ⟨.agg #[.bool s9, .slice a9 n9 c9, .slice o9 m9 d9], (by show _ = Act.put _ (some 165) _; simp only [putAll, Act.put, List.setIfInBounds_toArray, List.set_cons_succ, List.set_cons_zero, *]; all_goals rfl), ⟨s9, a9, n9, c9, o9, m9, d9, rfl, cq.mono hs1.out⟩, C6.below_gb b2 _, ⟨fun _ => ?_, fun h => ?_⟩⟩
                    · exact HB1.out.trans (b2.mono HB1.out.size)
                    · rw [HJ.out] at h; cases h
                  refine AllF.step (m := 0) (j := 11) rfl ?_ ?_
                  · intro D f w1 hD hB hR hp hcl hX
                    obtain ⟨s9, a9, n9, c9, o9, m9, d9, e9, q9⟩ := (hpAt hp 9 (by kernel_rfl)).2
                    replace e9 : f 165 = _ := e9
                    have XB := Lib.hid (carry XM0.out (hX.1 hD))
                    obtain ⟨k0, k1, k2, z0, z1, z2⟩ := at_block XB.out
                    have Q9 := Lib.hid q9
                    clear q9
                    have HX := Lib.hid hX
                    have HC := Lib.hid hcl
                    have HB := Lib.hid hB
                    have HD := Lib.hid hD
                    clear hX hcl hB hD hR hp
                    refine wpOp_step rfl (fun K hK => ?_)
                    simp only [putAll, Act.put, List.setIfInBounds_toArray, List.set_cons_succ, List.set_cons_zero]
                    go_simp
                    refine hK _ _ ⟨undef, (by show _ = Act.put _ (none) _; simp only [putAll, Act.put, List.setIfInBounds_toArray, List.set_cons_succ, List.set_cons_zero, *]; all_goals rfl), trivial, gb_trans (gb_trans (gbs _ _ _ _) (gbs _ _ _ _)) (gbs _ _ _ _), ⟨fun h => (by cases h), fun _ => ⟨s9, a9, n9, c9, o9, m9, d9, set3_at XB.out _ _ _, ?_⟩⟩⟩
                    exact cq_gbl Q9.out hgmw.out (gb_trans (gb_trans (gbs _ _ _ _) (gbs _ _ _ _)) (gbs _ _ _ _))
                  exact trivial
                · intro D f w1 hall hB hR hX
                  obtain ⟨s9, a9, n9, c9, o9, m9, d9, hx9, cq9⟩ := hX.2 (hall 10 (by decide))
                  have HM9 : Hid (∃ s a n c o m' d, w1.heap[gm]? = some (.cells #[.bool s, .slice a n c, .slice o m' d] 32 (0, 0)) ∧ CQ 0 w1 s a n c o m' d (meanQ (fun u => V u / Q u) ac A N (j + 1)) (kq 8200193 (j + 1))) := ⟨s9, a9, n9, c9, o9, m9, d9, hx9, by rw [← hmn.out, ← HKK.out]; exact cq9.mono (Nat.zero_le _)⟩
                  have HB9' : Hid (Below gm W4 w1) := HBW8.out.trans (row_gb hB (Nat.le_of_lt hgmw.out) (fun k e => by have := Option.some.inj e; omega))
                  clear hx9 cq9 hX hR hall hB KM KX KT KR SB ML AD
                  simp only [putAll, Act.put, List.setIfInBounds_toArray, List.set_cons_succ, List.set_cons_zero]
                  go_wp2_with fail
                  go_roundw
                  case rel => exact ⟨j + 1, by omega, by go_num, HM9, HB9'⟩
                  case measure => simp [intOf]; omega
        · obtain rfl : j = L := by omega
          have hlt2 : ¬ (j : Int) < (j : Int) := by omega
          obtain ⟨sm, am, nm, cm, om, mm, dm, xm0, cqm⟩ := hmean.out
          have hW4 : Below W4.heap.size W4 wr := by rw [← HGM.out]; exact hbl.out
          have hend : meanQ (fun u => V u / Q u) ac A N j = qsum qv := by
            rw [mean_end PT.out AE.out (fun u hu => good_ne (GD.out u hu)), HVN.out]
          rw [hend] at cqm
          have CM0 := Lib.hid cqm
          have KM : Hid (∀ w', Below wr.heap.size wr w' → w'.cell? ⟨gm, 0, none⟩ = some (.bool sm) ∧ w'.cell? ⟨gm, 1, none⟩ = some (.slice am nm cm) ∧ w'.cell? ⟨gm, 2, none⟩ = some (.slice om mm dm)) := fun w' hb => by
            obtain ⟨k0, k1, k2, _⟩ := at_block (carry xm0 hb)
            exact ⟨k0, k1, k2⟩
          have SMV : Hid (∀ w', Below wr.heap.size wr w' → Calls Tryz.prog 15 #[.slice (some ⟨vb, vo, none⟩) N vc] w' (MakesQ (qsum qv) (kq 2 N) w')) := fun w' hb => by
            have hb4 := hW4.trans (hb.mono hW4.size)
            have h := rSum_k 2 (by omega) (by omega) qv (some ⟨vb, vo, none⟩) vc rs w' (HV4.out w' hb4).1 (by rw [HRL.out]; omega) (HV4.out w' hb4).2
            rwa [HRL.out] at h
          have SA : Hid (∀ w', Below wr.heap.size wr w' → ∀ s a n c o m' d B', CQ B' w' s a n c o m' d (qsum qv) (kq 2 N) → Calls Tryz.prog 14 #[.agg #[.bool sm, .slice am nm cm, .slice om mm dm], .agg #[.bool s, .slice a n c, .slice o m' d]] w' fun e w2 => e = .returned (.bool true) ∧ Below w'.heap.size w' w2) := fun w' hb s a n c o m' d B' h => Same_q (CM0.out.below hb) h rfl
          have HBW : Hid (Below w.heap.size w wr) := B4.out.trans (hW4.mono B4.out.size)
          have AW : Hid (∀ w', Below wr.heap.size wr w' → Calls Tryz.prog 16 #[] w' fun e w2 => e = .returned (.bool true) ∧ Below w'.heap.size w' w2) := fun w' hb => awakeT_any w' (HTAB.out w' (HBW.out.trans (hb.mono HBW.out.size)))
          clear hend cqm xm0 hW4 hmean hbl
          go_upto_region 37 with fail
          refine wp_region_held_drew (S := fun w' => Below wr.heap.size wr w') (by kernel_rfl) ((Below.refl _ _).drew) (fun hH => ?_)
          refine wpAnyH_take (i := 0) (v := (.agg #[.bool sm, .slice am nm cm, .slice om mm dm])) rfl (by kernel_rfl) (by kernel_rfl) (by kernel_rfl) (fun _ _ _ h => h) (Or.inl ⟨by kernel_rfl, ?_⟩) hH ?_
          · intro w1 hB
            obtain ⟨j0, j1, j2⟩ := KM.out w1 hB
            go_simp
          change wpAnyH _ _ _ _ _ _ _ (Act.put _ (some 167) _) _
          try simp only [Act.put, List.setIfInBounds_toArray, List.set_cons_zero, List.set_cons_succ]
          refine wpAnyH_take (i := 1) (v := (.slice (some ⟨vb, vo, none⟩) N vc)) rfl (by kernel_rfl) (by kernel_rfl) (by kernel_rfl) (fun _ _ _ h => h) (Or.inl ⟨by kernel_rfl, ?_⟩) hH ?_
          · intro w1 hB
            go_simp
          change wpAnyH _ _ _ _ _ _ _ (Act.put _ (some 168) _) _
          try simp only [Act.put, List.setIfInBounds_toArray, List.set_cons_zero, List.set_cons_succ]
          refine wpAnyH_ready (rs := [2]) (by kernel_rfl) (by simp) ?_
          refine AllReadyH.cons rfl (fun K hK => ?_) AllReadyH.nil
          go_simp
          refine (SMV.out _ hH).mono ?_
          rintro e V2 ⟨sy, ay, ny, cy, oy, my, dy, rfl, cqy, v2⟩
          try go_simp
          refine hK.out _ _ (keepB v2 hH (Nat.le_refl _)) (fun hH2 => ?_)
          clear hK K
          try simp only [Act.put, List.setIfInBounds_toArray, List.set_cons_zero, List.set_cons_succ]
          refine wpAnyH_ready (rs := [3]) (by kernel_rfl) (by simp) ?_
          refine AllReadyH.cons rfl (fun K hK => ?_) AllReadyH.nil
          go_simp
          refine (SA.out _ hH2 _ _ _ _ _ _ _ _ cqy).mono ?_
          rintro e V3 ⟨rfl, v3⟩
          try go_simp
          refine hK.out _ _ (keepB v3 hH2 (Nat.le_refl _)) (fun hH3 => ?_)
          clear hK K
          try simp only [Act.put, List.setIfInBounds_toArray, List.set_cons_zero, List.set_cons_succ]
          refine wpAnyH_take (i := 4) (v := (.bool true)) rfl (by kernel_rfl) (by kernel_rfl) (by kernel_rfl) (fun _ _ _ h => h) (Or.inl ⟨by kernel_rfl, ?_⟩) hH3 ?_
          · intro w1 hB
            go_simp
          change wpAnyH _ _ _ _ _ _ _ (Act.put _ (some 171) _) _
          try simp only [Act.put, List.setIfInBounds_toArray, List.set_cons_zero, List.set_cons_succ]
          refine wpAnyH_ready (rs := [5]) (by kernel_rfl) (by simp) ?_
          refine AllReadyH.cons rfl (fun K hK => ?_) AllReadyH.nil
          go_simp
          refine (AW.out _ hH3).mono ?_
          rintro e V5 ⟨rfl, v5⟩
          try go_simp
          refine hK.out _ _ (keepB v5 hH3 (Nat.le_refl _)) (fun hH5 => ?_)
          clear hK K
          try simp only [Act.put, List.setIfInBounds_toArray, List.set_cons_zero, List.set_cons_succ]
          refine wpAnyH_take (i := 6) (v := (.bool true)) rfl (by kernel_rfl) (by kernel_rfl) (by kernel_rfl) (fun _ _ _ h => h) (Or.inl ⟨by kernel_rfl, ?_⟩) hH5 ?_
          · intro w1 hB
            go_simp
          change wpAnyH _ _ _ _ _ _ _ (Act.put _ (some 173) _) _
          try simp only [Act.put, List.setIfInBounds_toArray, List.set_cons_zero, List.set_cons_succ]
          refine wpAnyH_take (i := 7) (v := (.bool true)) rfl (by kernel_rfl) (by kernel_rfl) (by kernel_rfl) (fun _ _ _ h => h) (Or.inl ⟨by kernel_rfl, ?_⟩) hH5 ?_
          · intro w1 hB
            go_simp
          change wpAnyH _ _ _ _ _ _ _ (Act.put _ (some 2) _) _
          try simp only [Act.put, List.setIfInBounds_toArray, List.set_cons_zero, List.set_cons_succ]
          refine wpAnyH_done (by kernel_rfl) ?_ _
          have BV : Below wr.heap.size wr V5 := hH5
          have HW7 := Lib.hid (HBW.out.trans (BV.mono HBW.out.size))
          clear BV KM SMV SA AW
          go_wp2_with fail
          go_ret
          exact ⟨rfl, HW7.out⟩
end Go.Proofs.YtmhjimcdiglpcaaGreatDoor.Dr
