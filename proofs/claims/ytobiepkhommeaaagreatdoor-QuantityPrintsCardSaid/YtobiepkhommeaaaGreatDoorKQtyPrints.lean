import Derived.Test.YtobiepkhommeaaaGreatDoorQty12
import Derived.Test.YtobiepkhommeaaaGreatDoorQty13
import Derived.Deep.CutRange
import Derived.Test.YtobiepkhommeaaaGreatDoorFacts8g
import Derived.Test.YtobiepkhommeaaaGreatDoorFrame8b
import Derived.Test.YtobiepkhommeaaaGreatDoorFrame8l
/- QuantityPrints: the walk. -/
namespace Go.Proofs.YtobiepkhommeaaaGreatDoor
open Go.RowKit Go.Sort C6

set_option maxHeartbeats 16000000 in
set_option maxRecDepth 100000 in
theorem QuantityPrints_any (d c a : Int) (ao : Option Addr) (ts : List Int) (cap : Nat) (w : World) (hb : QB d c a) (hr : RdZ w ao cap ts) (he : Env w) :
    Calls Tryz.prog 4 #[.agg #[.int .i64 d, .int .i64 c, .int .i64 a], .slice ao ts.length cap] w fun e w' => e = .returned (.bool true) ∧ Below w.heap.size w w' := by
  obtain ⟨g0, hg0⟩ : ∃ g, g = w.heap.size := ⟨_, rfl⟩
  obtain ⟨W1, hW1⟩ : ∃ W, W = w.alloc (.cells #[.int .i64 d, .int .i64 c, .int .i64 a] 39) := ⟨_, rfl⟩
  have b1 : Below w.heap.size w W1 := by rw [hW1]; exact below_new _ _
  have x1 : W1.heap[g0]? = some (.cells #[.int .i64 d, .int .i64 c, .int .i64 a] 39 (0, 0)) := by rw [hW1, hg0]; exact heap_alloc_new _ _
  obtain ⟨nts, hnts⟩ : ∃ n, n = ts.length := ⟨_, rfl⟩
  obtain ⟨W3, hW3⟩ : ∃ W, W = W1.drew.alloc (.cells #[.slice ao nts cap, .int .i64 0] 43) := ⟨_, rfl⟩
  have b3 : Below W1.heap.size W1 W3 := by rw [hW3]; exact keepB (below_new _ _) (Below.refl _ _).drew (Nat.le_refl _)
  have s3 : W3.heap.size = W1.heap.size + 1 := by rw [hW3]; exact World.size_alloc _ _
  obtain ⟨B, hB⟩ : ∃ B, B = W1.heap.size := ⟨_, rfl⟩
  have hT : Tap W3 B ao ts.length cap 0 := by rw [hW3, hB, hnts]; exact Tap.new _ _ _ _
  have hR : RdZ W3 ao cap ts := RdV.below (RdV.below hr b1) b3
  have hTB : 0 < (intz ts).length → ∀ b o, ao = some ⟨b, o, none⟩ → b < B := fun h b o e => by
    have := hr.lt h b o e
    have := b1.size
    omega
  have TQ0 := TQuantity_v B ao cap ts 0 W3 hT hR hTB (by omega)
  rw [hW3, ← hnts] at TQ0
  rw [hB] at TQ0
  have TQ := Lib.hid TQ0
  have X1 := Lib.hid x1
  have B1 := Lib.hid b1
  have HBB : Hid (W1.heap.size ≤ B) := by unfold Hid; omega
  have HB3 : Hid (W1.heap.size ≤ (W1.drew.alloc (.cells #[.slice ao nts cap, .int .i64 0] 43)).heap.size) := by unfold Hid; rw [← hW3]; omega
  have B3 : Hid (Below W1.heap.size W1 (W1.drew.alloc (.cells #[.slice ao nts cap, .int .i64 0] 43))) := by unfold Hid; rw [← hW3]; exact b3
  rw [← hnts]
  have EN := Lib.hid he
  clear b1 x1 b3 hT hR hTB hr he hnts TQ0 hW3 s3 hB
  go_enter Tryz.func4, Tryz.ntmps4
  go_wp2_with fail
  rw [← hW1, ← hg0]
  clear hW1 hg0
  refine wp_region_held_drew (S := fun w' => Below W1.heap.size W1 w') (by kernel_rfl) ((Below.refl _ _).drew) (fun hH => ?_)
  refine wpAnyH_take (i := 0) (v := (.agg #[.int .i64 d, .int .i64 c, .int .i64 a])) rfl (by kernel_rfl) (by kernel_rfl) (by kernel_rfl) (fun _ _ _ h => h) (Or.inl ⟨by kernel_rfl, ?_⟩) hH ?_
  · intro w1 hB
    obtain ⟨k0, k1', k2, _⟩ := at_blockQ (carry X1.out hB)
    go_simp
  change wpAnyH _ _ _ _ _ _ _ (Act.put _ (some 11) _) _
  try simp only [Act.put, List.setIfInBounds_toArray, List.set_cons_zero, List.set_cons_succ]
  refine wpAnyH_take (i := 1) (v := (.slice ao nts cap)) rfl (by kernel_rfl) (by kernel_rfl) (by kernel_rfl) (fun _ _ _ h => h) (Or.inl ⟨by kernel_rfl, ?_⟩) hH ?_
  · intro w1 hB
    go_simp
  change wpAnyH _ _ _ _ _ _ _ (Act.put _ (some 12) _) _
  try simp only [Act.put, List.setIfInBounds_toArray, List.set_cons_zero, List.set_cons_succ]
  refine wpAnyH_take (i := 2) (v := (.agg #[.slice ao nts cap, .int .i64 0])) rfl (by kernel_rfl) (by kernel_rfl) (by kernel_rfl) (fun _ _ _ h => h) (Or.inl ⟨by kernel_rfl, ?_⟩) hH ?_
  · intro w1 hB
    go_simp
  change wpAnyH _ _ _ _ _ _ _ (Act.put _ (some 13) _) _
  try simp only [Act.put, List.setIfInBounds_toArray, List.set_cons_zero, List.set_cons_succ]
  refine wpAnyH_take (i := 7) (v := (.int .i64 0)) rfl (by kernel_rfl) (by kernel_rfl) (by kernel_rfl) (fun _ _ _ h => h) (Or.inl ⟨by kernel_rfl, ?_⟩) hH ?_
  · intro w1 hB
    go_simp
  change wpAnyH _ _ _ _ _ _ _ (Act.put _ (some 18) _) _
  try simp only [Act.put, List.setIfInBounds_toArray, List.set_cons_zero, List.set_cons_succ]
  refine wpAnyH_ready (rs := [3]) (by kernel_rfl) (by simp) ?_
  refine AllReadyH.cons rfl (fun K hK => ?_) AllReadyH.nil
  go_simp
  try go_simp
  refine hK.out _ _ (keepB (below_new _ _) hH (Nat.le_refl _)) (fun hH3 => ?_)
  clear hK K
  try simp only [Act.put, List.setIfInBounds_toArray, List.set_cons_zero, List.set_cons_succ]
  refine wpAnyH_ready (rs := [4]) (by kernel_rfl) (by simp) ?_
  refine AllReadyH.cons rfl (fun K hK => ?_) AllReadyH.nil
  go_simp
  refine TQ.out.mono ?_
  rintro e V4 ⟨dm, cm, am, rfl, ⟨hd1, hd2⟩, ⟨hc1, hc2⟩, ⟨ha1, ha2⟩, g4, _⟩
  have v4 : Below W1.heap.size W1 V4 := B3.out.trans ((gb_below g4 (by have := HB3.out; omega)).mono (by have := HBB.out; omega))
  try go_simp
  refine hK.out _ _ v4 (fun hH4 => ?_)
  clear hK K
  try simp only [Act.put, List.setIfInBounds_toArray, List.set_cons_zero, List.set_cons_succ]
  refine wpAnyH_ready (rs := [5]) (by kernel_rfl) (by simp) ?_
  refine AllReadyH.cons rfl (fun K hK => ?_) AllReadyH.nil
  go_simp
  try go_simp
  refine hK.out _ _ (keepB (below_new _ _) hH4 (Nat.le_refl _)) (fun hH5 => ?_)
  clear hK K
  try simp only [Act.put, List.setIfInBounds_toArray, List.set_cons_zero, List.set_cons_succ]
  refine wpAnyH_take (i := 6) (v := (.int .i64 2)) rfl (by kernel_rfl) (by kernel_rfl) (by kernel_rfl) (fun _ _ _ h => h) (Or.inl ⟨by kernel_rfl, ?_⟩) hH5 ?_
  · intro w1 hB
    go_simp
  change wpAnyH _ _ _ _ _ _ _ (Act.put _ (some 17) _) _
  try simp only [Act.put, List.setIfInBounds_toArray, List.set_cons_zero, List.set_cons_succ]
  refine wpAnyH_done (by kernel_rfl) ?_ _
  have y6 := heap_alloc_new V4 (.cells #[.int .i64 d, .int .i64 c, .int .i64 a, .int .i64 (dm : Int), .int .i64 (cm : Int), .int .i64 (am : Int)] 39)
  have b6 := hH5
  obtain ⟨W6, hW6⟩ : ∃ W, W = V4.alloc (.cells #[.int .i64 d, .int .i64 c, .int .i64 a, .int .i64 (dm : Int), .int .i64 (cm : Int), .int .i64 (am : Int)] 39) := ⟨_, rfl⟩
  rw [← hW6] at y6 b6 ⊢
  obtain ⟨gr, hgr⟩ : ∃ g, g = V4.heap.size := ⟨_, rfl⟩
  rw [← hgr] at y6 ⊢
  have B6 := Lib.hid (B1.out.trans (b6.mono B1.out.size))
  have Y6 := Lib.hid y6
  have HQM : Hid (QB (dm : Int) (cm : Int) (am : Int)) := ⟨by omega, by omega, by omega, by omega, by omega, by omega⟩
  clear hW6 hgr y6 b6 hd1 hd2 hc1 hc2 ha1 ha2 g4 v4
  go_wp2_with fail
  go_loopw [18] (fun s18 wr => ∃ i : Nat, i ≤ 2 ∧ s18 = .int .i64 (i : Int) ∧ Hid (Below W6.heap.size W6 wr)) (fun s18 _ => 2 - (intOf s18).toNat)
  case atStart => exact ⟨0, by omega, rfl, Below.refl _ _⟩
  case round =>
    obtain ⟨i, hi, rfl, hwr⟩ := hrel
    have BW := Lib.hid (B6.out.trans (hwr.out.mono B6.out.size))
    by_cases hlt : i < 2
    · have hlt2 : (i : Int) < 2 := by omega
      obtain ⟨x, y, z, c0, c1, c2, hq⟩ := rowQ2 Y6.out hb HQM.out hlt
      replace c0 := cellQ c0 hwr.out
      replace c1 := cellQ c1 hwr.out
      replace c2 := cellQ c2 hwr.out
      obtain ⟨E, hE⟩ : ∃ E, E = qwhy x y z := ⟨_, rfl⟩
      obtain ⟨F, hF⟩ : ∃ F, F = txtB (qfmt x y z) := ⟨_, rfl⟩
      have FM : Hid (∀ w', Below wr.heap.size wr w' → Calls Tryz.prog 23 #[.agg #[.int .i64 x, .int .i64 y, .int .i64 z]] w' fun e w2 => e = .returned (.tuple #[.string F, .int .i64 E]) ∧ Below w'.heap.size w' w2) := fun w' hb' => by
        rw [hF, hE]; exact QFormat_v x y z hq w' ((EN.out.below (BW.out.trans (hb'.mono BW.out.size))).tab)
      have RM : Hid (∀ w', Calls Tryz.prog 24 #[.agg #[.int .i64 x, .int .i64 y, .int .i64 z]] w' fun e w2 => e = .returned (.tuple #[.string F, .int .i64 E]) ∧ Below w'.heap.size w' w2) := fun w' => by
        rw [hF, hE]; exact rFormat_q x y z hq w'
      have n7 := below_new wr (.cells #[.int .i64 x, .int .i64 y, .int .i64 z] 39)
      have y7 := heap_alloc_new wr (.cells #[.int .i64 x, .int .i64 y, .int .i64 z] 39)
      obtain ⟨W7, hW7⟩ : ∃ W, W = wr.alloc (.cells #[.int .i64 x, .int .i64 y, .int .i64 z] 39) := ⟨_, rfl⟩
      obtain ⟨gx, hgx⟩ : ∃ g, g = wr.heap.size := ⟨_, rfl⟩
      rw [← hW7] at n7 y7
      rw [← hgx] at y7
      have Y7 := Lib.hid y7
      have B7 := Lib.hid n7
      have HR7 := Lib.hid hwr.out.size
      clear hE hF hq n7
      obtain ⟨k0, k1', k2, _⟩ := at_blockQ y7
      clear y7
      go_upto_region 4 with fail
      rw [← hW7, ← hgx]
      clear hW7 hgx c0 c1 c2
      go_wp2_with fail
      refine (FM.out _ B7.out).mono ?_; rintro e w8 ⟨rfl, b8⟩
      have B8 := Lib.hid (B7.out.trans (b8.mono B7.out.size))
      have Y8 := Lib.hid (carry Y7.out b8)
      clear b8 k0 k1' k2
      obtain ⟨k0, k1', k2, _⟩ := at_blockQ Y8.out
      go_wp2_with fail
      refine (RM.out _).mono ?_; rintro e w9 ⟨rfl, b9⟩
      have B11 : Hid (Below W6.heap.size W6 w9) := hwr.out.trans ((B8.out.trans (b9.mono B8.out.size)).mono HR7.out)
      clear b9 k0 k1' k2
      go_wp2_with fail
      go_roundw
      case rel => exact ⟨i + 1, by omega, by go_num, B11⟩
      case measure => simp [intOf]; omega
    · obtain rfl : i = 2 := by omega
      have AW := Lib.hid (awake8_v wr (EN.out.below BW.out))
      go_wp2_with fail
      refine AW.out.mono ?_; rintro e w9 ⟨rfl, b9⟩
      have B9 := Lib.hid (BW.out.trans (b9.mono BW.out.size))
      clear b9
      go_wp2_with fail
      go_ret
      exact ⟨rfl, B9.out⟩
end Go.Proofs.YtobiepkhommeaaaGreatDoor
/- QuantityPrints holds for every input: Format of any quantity, and of a made one, answers as the reference; no condition. -/
namespace Go.Proofs.YtobiepkhommeaaaGreatDoor.lawQtyPrints
open Go.ChangeShapes Go.WideShapes Go.ChangeAt Go.RowKit

set_option maxRecDepth 100000 in
set_option maxHeartbeats 1000000 in
theorem contract (H : Type) (enc : TypeId × Value → H) (W : World) (base : Nat) (args : Array Value) (ds gs : List (DataW H)) (before : List MemPlace)
    (hval : ∀ (j : Nat) t v, Tryz.f4.params[j]? = some t → args[j]? = some v → Value.okWide Tryz.prog W .any base t v)
    (hW : DataW.Whole enc Tryz.prog Tryz.f4.params.toList Rows.quantityPrintsSpec.vars false W args.toList ds gs before) (hL : laidMetH Tryz.prog Rows.quantityPrintsRow.laid W) (hsh : W.ShapedOpen Tryz.prog) :
    Calls Tryz.prog 4 args W fun e W' => ∃ v, e = .returned v ∧ Rows.quantityPrintsSpec.post enc Tryz.prog Tryz.f4 false true false false W args v W' := by
  have hW' := hW
  obtain ⟨p, q, hA0, _, _, _, _⟩ := hW
  have hA : DataW.TrodAll enc Tryz.prog W 0 (fun _ => true) true Tryz.f4.params.toList args.toList ds p := hA0
  rw [Tryz.params4] at hA hval
  obtain ⟨v0, vs0, d0, ds0, p0, q0, hargs, rfl, rfl, h0, r0⟩ := trodAll_cons hA
  obtain ⟨v1, vs1, d1, ds1, p1, q1, rfl, rfl, rfl, h1, r1⟩ := trodAll_cons r0
  obtain ⟨rfl, rfl, rfl⟩ := trodAll_nil r1
  obtain rfl : args = #[v0, v1] := by cases args; simp_all
  obtain ⟨d0, c0, a0, rfl, bq0⟩ := qty_open (hval 0 39 v0 rfl rfl) h0
  obtain ⟨ao1, zs1, cap1, rfl, hr1⟩ := ints_open8 (hval 1 40 v1 rfl rfl) h1
  refine (QuantityPrints_any d0 c0 a0 ao1 zs1 cap1 W bq0 hr1 (env_of (tab_of7 hL) hsh)).mono ?_
  rintro e W' ⟨rfl, hb⟩
  exact ⟨_, rfl, law_post hW' rfl rfl rfl (by rw [Tryz.params4]; exact facts.readable_of8 (by decide)) hb⟩

theorem laid_met (os : Os) : laidMet Tryz.prog Rows.quantityPrintsRow.laid ((laidWorld7 os).forCall (fun _ _ => 0) ⟨#[], #[.agg #[.int .i64 0, .int .i64 0, .int .i64 0], .slice none 0 0], []⟩).memory :=
  laidMet_of_run' 8 (by kernel_rfl) (by kernel_rfl)
theorem reads (os : Os) {H : Type} (enc : TypeId × Value → H) : ∃ places, DataW.whole enc Tryz.prog ((laidWorld7 os).forCall (fun _ _ => 0) ⟨#[], #[.agg #[.int .i64 0, .int .i64 0, .int .i64 0], .slice none 0 0], []⟩).memory Tryz.f4.params.toList Rows.quantityPrintsSpec.vars false #[Value.agg #[.int .i64 0, .int .i64 0, .int .i64 0], .slice none 0 0].toList 8 = some ([.agg [.lit (.int .i64 0), .lit (.int .i64 0), .lit (.int .i64 0)], .nil], [], places) :=
  ⟨[], by kernel_rfl⟩

set_option maxRecDepth 100000 in
set_option maxHeartbeats 2000000 in
theorem lifted (os : Os) (started : os.Started) (H : Type) (enc : TypeId × Value → H) (F : Stop.Interp) :
    ReturnsInHanded {} Tryz.checked os 4 .any ((OpenSpec.ofChange Rows.quantityPrintsSpec).preRow enc Tryz.prog Tryz.f4 Rows.quantityPrintsRow.domain false Rows.quantityPrintsRow.laid) (((OpenSpec.ofChange Rows.quantityPrintsSpec).at F).post enc Tryz.prog Tryz.f4 false true false false) := by
  obtain ⟨places, hx⟩ := reads os enc
  refine returnsInHanded_of_row (C := Tryz.checked) (s := OpenSpec.ofChange Rows.quantityPrintsSpec) fr_own started (by kernel_rfl) Tryz.func4
    (witness_row_at (enc := enc) (C := Tryz.checked) false (laidWorld7 os) #[.agg #[.int .i64 0, .int .i64 0, .int .i64 0], .slice none 0 0] rfl (by kernel_rfl) (by kernel_rfl) (by kernel_rfl)
      (OpenSpec.preRow_of_cond 8 hx (by kernel_rfl) (fun k hk => by cases hk) (by kernel_rfl) (laid_met os))) ?_
  intro W base args ds gs before hval hW _ _ _ hL hsh _
  exact contract H enc W base args ds gs before hval hW hL hsh

set_option maxHeartbeats 8000000 in
theorem closed : joinedFacts Tryz.prog 4 Tryz.f4 Rows.quantityPrintsSpec Rows.quantityPrintsRow = true := by
  unfold joinedFacts
  repeat' (with_reducible refine facts.and_mk ?_ ?_)
  all_goals first
    | (with_reducible exact facts.laidOut) | (with_reducible exact facts.rowed) | (with_reducible exact facts.stops) | (with_reducible exact facts.stopKnobs) | (with_reducible exact facts.stopsHeard) | (with_reducible exact facts.mayEnter)
    | ((with_reducible refine facts.plainKeys_of ?_); rfl) | ((with_reducible refine facts.lifted_of ?_); rfl) | ((with_reducible refine facts.make_of ?_); rfl)
    | (as_aux_lemma => kernel_rfl)

set_option maxRecDepth 100000 in
theorem said : Rows.QuantityPrintsSaid :=
  OpenClaim.holds_of_cond 4 Tryz.f4 rfl rfl rfl rfl rfl rfl rfl ⟨rfl, rfl, rfl, rfl, rfl⟩ rfl rfl rfl rfl rfl (by kernel_rfl) Tryz.func4 closed
    (of_decide_eq_true (by kernel_rfl)) (by unfold Func.isWrapper; first | (rw [if_pos (by decide +kernel)]; kernel_rfl) | (rw [if_neg (by decide +kernel)]; exact ⟨rfl, rfl⟩))
    (fun os started H enc _ F => by rw [OpenClaim.pre_eq_preRow]; exact lifted os started H enc F)

theorem plain (f : FuncId) (fn : Func) (hf : Tryz.pinned.checked.prog.funcNamed "priceoffice/priceofficelaw08.QuantityPrints" = some f) (hfn : Tryz.pinned.checked.prog.funcs[f]? = some fn) :
    Rows.rationalApartCard.stood.looks = Tryz.pinned.checked.prog.looks [] ∧ ∀ (j : Nat) t, fn.params[j]? = some t → Tryz.pinned.checked.prog.wantsStandIn t = false := by
  obtain rfl : f = 4 := Option.some.inj ((show Tryz.prog.funcNamed "priceoffice/priceofficelaw08.QuantityPrints" = some 4 by kernel_rfl).symm.trans hf) |>.symm
  obtain rfl : fn = Tryz.f4 := (Option.some.inj (Tryz.func4.symm.trans hfn)).symm
  refine ⟨facts.looks, fun j t ht => ?_⟩
  rw [Tryz.params4] at ht
  exact facts.standIn_of8 (by decide) j t ht

theorem card : Rows.QuantityPrintsCardSaid :=
  Claim7.holds_tied_plain_at .later [] _ _ _ _ said (fun _ h => by cases h) (by kernel_rfl) (fun _ h => by cases h) quantityPrints_row_tie rfl ⟨rfl, rfl⟩ facts.mainIs rfl plain (by kernel_rfl)
end Go.Proofs.YtobiepkhommeaaaGreatDoor.lawQtyPrints
