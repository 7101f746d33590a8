import Derived.Test.YtobiepkhommeaaaGreatDoorQty15
import Derived.Test.YtobiepkhommeaaaGreatDoorQty16
import Derived.Test.YtobiepkhommeaaaGreatDoorQtysB
import Derived.Deep.CutRange
import Derived.Test.YtobiepkhommeaaaGreatDoorFacts8g
import Derived.Test.YtobiepkhommeaaaGreatDoorFrame8l
/- QuantityReads: the walk. -/
namespace Go.Proofs.YtobiepkhommeaaaGreatDoor
open Go.RowKit Go.Sort C6

theorem rowS2 {w : World} {g : Nat} {a b : ByteArray} {t : TypeId} (h : w.heap[g]? = some (.cells #[.string a, .string b] t (0, 0))) (h1 : a.size ≤ 60) (h2 : b.size ≤ 60) {i : Nat} (hi : i < 2) : ∃ u, w.cell? ⟨g, i, none⟩ = some (.string u) ∧ u.size ≤ 60 := by
  have : i = 0 ∨ i = 1 := by omega
  rcases this with rfl | rfl
  · exact ⟨a, by simp [World.cell?, h], h1⟩
  · exact ⟨b, by simp [World.cell?, h], h2⟩

set_option maxHeartbeats 16000000 in
set_option maxRecDepth 100000 in
theorem QuantityReads_any (s : ByteArray) (ao : Option Addr) (ts : List Int) (cap : Nat) (w : World) (hs : s.size ≤ 9223372036854775807) (hr : RdZ w ao cap ts) (he : Env w) :
    Calls Tryz.prog 6 #[.string s, .slice ao ts.length cap] w fun e w' => e = .returned (.bool true) ∧ Below w.heap.size w w' := by
  obtain ⟨nts, hnts⟩ : ∃ n, n = ts.length := ⟨_, rfl⟩
  obtain ⟨W3, hW3⟩ : ∃ W, W = w.drew.alloc (.cells #[.slice ao nts cap, .int .i64 0] 43) := ⟨_, rfl⟩
  have b3 : Below w.heap.size w W3 := by rw [hW3]; exact keepB (below_new _ _) (Below.refl _ _).drew (Nat.le_refl _)
  have s3 : W3.heap.size = w.heap.size + 1 := by rw [hW3]; exact World.size_alloc _ _
  obtain ⟨B, hB⟩ : ∃ B, B = w.heap.size := ⟨_, rfl⟩
  have hT : Tap W3 B ao ts.length cap 0 := by rw [hW3, hB, hnts]; exact Tap.new _ _ _ _
  have hR : RdZ W3 ao cap ts := RdV.below hr b3
  have hTB : 0 < (intz ts).length → ∀ b o, ao = some ⟨b, o, none⟩ → b < B := fun h b o e => by
    have := hr.lt h b o e
    omega
  have TQ0 := text_v B ao cap ts 0 W3 hT hR hTB (by omega)
  rw [hW3] at TQ0
  rw [hB] at TQ0
  have TQ := Lib.hid TQ0
  have HBB : Hid (w.heap.size ≤ B) := by unfold Hid; omega
  have HB3 : Hid (w.heap.size ≤ (w.drew.alloc (.cells #[.slice ao nts cap, .int .i64 0] 43)).heap.size) := by unfold Hid; rw [← hW3]; omega
  have B3 : Hid (Below w.heap.size w (w.drew.alloc (.cells #[.slice ao nts cap, .int .i64 0] 43))) := by unfold Hid; rw [← hW3]; exact b3
  rw [← hnts]
  have EN := Lib.hid he
  obtain ⟨n, hn⟩ : ∃ n, n = s.size := ⟨_, rfl⟩
  obtain ⟨k, hk⟩ : ∃ k : Nat, k = min n 60 := ⟨_, rfl⟩
  have hmin : min (n : Int) 60 = (k : Int) := by omega
  have hkn : k ≤ n := by omega
  have hk60 : k ≤ 60 := by omega
  obtain ⟨S0, hS0⟩ : ∃ S, S = s.extract 0 k := ⟨_, rfl⟩
  have hS0s : S0.size ≤ 60 := by rw [hS0, ByteArray.size_extract]; omega
  have hext : s.extract 0 k = S0 := hS0.symm
  have hsn : s.size = n := hn.symm
  have hnk : ¬ n < k := by omega
  rw [← hn] at hs
  clear b3 hT hR hTB hr he hnts TQ0 hW3 s3 hB hn hk hS0
  go_enter Tryz.func6, Tryz.ntmps6
  go_wp2_with fail
  refine wp_region_held_drew (S := fun w' => Below w.heap.size w w') (by kernel_rfl) ((Below.refl _ _).drew) (fun hH => ?_)
  refine wpAnyH_take (i := 0) (v := (.string s)) rfl (by kernel_rfl) (by kernel_rfl) (by kernel_rfl) (fun _ _ _ h => h) (Or.inl ⟨by kernel_rfl, ?_⟩) hH ?_
  · intro w1 hB
    go_simp
  change wpAnyH _ _ _ _ _ _ _ (Act.put _ (some 11) _) _
  try simp only [Act.put, List.setIfInBounds_toArray, List.set_cons_zero, List.set_cons_succ]
  refine wpAnyH_take (i := 1) (v := (.string s)) rfl (by kernel_rfl) (by kernel_rfl) (by kernel_rfl) (fun _ _ _ h => h) (Or.inl ⟨by kernel_rfl, ?_⟩) hH ?_
  · intro w1 hB
    go_simp
  change wpAnyH _ _ _ _ _ _ _ (Act.put _ (some 12) _) _
  try simp only [Act.put, List.setIfInBounds_toArray, List.set_cons_zero, List.set_cons_succ]
  refine wpAnyH_take (i := 2) (v := (.int .i64 (n : Int))) rfl (by kernel_rfl) (by kernel_rfl) (by kernel_rfl) (fun _ _ _ h => h) (Or.inl ⟨by kernel_rfl, ?_⟩) hH ?_
  · intro w1 hB
    go_simp
  change wpAnyH _ _ _ _ _ _ _ (Act.put _ (some 13) _) _
  try simp only [Act.put, List.setIfInBounds_toArray, List.set_cons_zero, List.set_cons_succ]
  refine wpAnyH_take (i := 3) (v := (.int .i64 (k : Int))) rfl (by kernel_rfl) (by kernel_rfl) (by kernel_rfl) (fun _ _ _ h => h) (Or.inl ⟨by kernel_rfl, ?_⟩) hH ?_
  · intro w1 hB
    go_simp
  change wpAnyH _ _ _ _ _ _ _ (Act.put _ (some 14) _) _
  try simp only [Act.put, List.setIfInBounds_toArray, List.set_cons_zero, List.set_cons_succ]
  refine wpAnyH_take (i := 4) (v := (.string S0)) rfl (by kernel_rfl) (by kernel_rfl) (by kernel_rfl) (fun _ _ _ h => h) (Or.inl ⟨by kernel_rfl, ?_⟩) hH ?_
  · intro w1 hB
    go_simp
  change wpAnyH _ _ _ _ _ _ _ (Act.put _ (some 15) _) _
  try simp only [Act.put, List.setIfInBounds_toArray, List.set_cons_zero, List.set_cons_succ]
  refine wpAnyH_take (i := 5) (v := (.slice ao nts cap)) rfl (by kernel_rfl) (by kernel_rfl) (by kernel_rfl) (fun _ _ _ h => h) (Or.inl ⟨by kernel_rfl, ?_⟩) hH ?_
  · intro w1 hB
    go_simp
  change wpAnyH _ _ _ _ _ _ _ (Act.put _ (some 16) _) _
  try simp only [Act.put, List.setIfInBounds_toArray, List.set_cons_zero, List.set_cons_succ]
  refine wpAnyH_take (i := 6) (v := (.agg #[.slice ao nts cap, .int .i64 0])) rfl (by kernel_rfl) (by kernel_rfl) (by kernel_rfl) (fun _ _ _ h => h) (Or.inl ⟨by kernel_rfl, ?_⟩) hH ?_
  · intro w1 hB
    go_simp
  change wpAnyH _ _ _ _ _ _ _ (Act.put _ (some 17) _) _
  try simp only [Act.put, List.setIfInBounds_toArray, List.set_cons_zero, List.set_cons_succ]
  refine wpAnyH_take (i := 11) (v := (.int .i64 0)) rfl (by kernel_rfl) (by kernel_rfl) (by kernel_rfl) (fun _ _ _ h => h) (Or.inl ⟨by kernel_rfl, ?_⟩) hH ?_
  · intro w1 hB
    go_simp
  change wpAnyH _ _ _ _ _ _ _ (Act.put _ (some 22) _) _
  try simp only [Act.put, List.setIfInBounds_toArray, List.set_cons_zero, List.set_cons_succ]
  refine wpAnyH_ready (rs := [7]) (by kernel_rfl) (by simp) ?_
  refine AllReadyH.cons rfl (fun K hK => ?_) AllReadyH.nil
  go_simp
  try go_simp
  refine hK.out _ _ (keepB (below_new _ _) hH (Nat.le_refl _)) (fun hH7 => ?_)
  clear hK K
  try simp only [Act.put, List.setIfInBounds_toArray, List.set_cons_zero, List.set_cons_succ]
  refine wpAnyH_ready (rs := [8]) (by kernel_rfl) (by simp) ?_
  refine AllReadyH.cons rfl (fun K hK => ?_) AllReadyH.nil
  go_simp
  refine TQ.out.mono ?_
  rintro e V4 ⟨S1, rfl, hS1, g4⟩
  have v4 : Below w.heap.size w V4 := B3.out.trans ((gb_below g4 (by have := HB3.out; omega)).mono (by have := HBB.out; omega))
  try go_simp
  refine hK.out _ _ v4 (fun hH8 => ?_)
  clear hK K
  try simp only [Act.put, List.setIfInBounds_toArray, List.set_cons_zero, List.set_cons_succ]
  refine wpAnyH_ready (rs := [9]) (by kernel_rfl) (by simp) ?_
  refine AllReadyH.cons rfl (fun K hK => ?_) AllReadyH.nil
  go_simp
  try go_simp
  refine hK.out _ _ (keepB (below_new _ _) hH8 (Nat.le_refl _)) (fun hH9 => ?_)
  clear hK K
  try simp only [Act.put, List.setIfInBounds_toArray, List.set_cons_zero, List.set_cons_succ]
  refine wpAnyH_take (i := 10) (v := (.int .i64 2)) rfl (by kernel_rfl) (by kernel_rfl) (by kernel_rfl) (fun _ _ _ h => h) (Or.inl ⟨by kernel_rfl, ?_⟩) hH9 ?_
  · intro w1 hB
    go_simp
  change wpAnyH _ _ _ _ _ _ _ (Act.put _ (some 21) _) _
  try simp only [Act.put, List.setIfInBounds_toArray, List.set_cons_zero, List.set_cons_succ]
  refine wpAnyH_done (by kernel_rfl) ?_ _
  have y6 := heap_alloc_new V4 (.cells #[.string S0, .string S1] 9)
  have b6 := hH9
  obtain ⟨W6, hW6⟩ : ∃ W, W = V4.alloc (.cells #[.string S0, .string S1] 9) := ⟨_, rfl⟩
  rw [← hW6] at y6 b6 ⊢
  obtain ⟨gr, hgr⟩ : ∃ g, g = V4.heap.size := ⟨_, rfl⟩
  rw [← hgr] at y6 ⊢
  have B6 := Lib.hid b6
  have Y6 := Lib.hid y6
  clear hW6 hgr y6 b6 g4 v4 hmin hkn hk60 hext hsn hnk hs
  go_wp2_with fail
  go_loopw [22] (fun s22 wr => ∃ i : Nat, i ≤ 2 ∧ s22 = .int .i64 (i : Int) ∧ Hid (Below W6.heap.size W6 wr)) (fun s22 _ => 2 - (intOf s22).toNat)
  case atStart => exact ⟨0, by omega, rfl, Below.refl _ _⟩
  case round =>
    obtain ⟨i, hi, rfl, hwr⟩ := hrel
    have BW := Lib.hid (B6.out.trans (hwr.out.mono B6.out.size))
    by_cases hlt : i < 2
    · have hlt2 : (i : Int) < 2 := by omega
      obtain ⟨F, c0, hF⟩ := rowS2 Y6.out hS0s hS1 hlt
      replace c0 := cellQ c0 hwr.out
      obtain ⟨p1, hp1⟩ : ∃ p, p = rD F.data.toList := ⟨_, rfl⟩
      obtain ⟨p2, hp2⟩ : ∃ p, p = rC F.data.toList := ⟨_, rfl⟩
      obtain ⟨p3, hp3⟩ : ∃ p, p = rA F.data.toList := ⟨_, rfl⟩
      obtain ⟨pe, hpe⟩ : ∃ p, p = rE F.data.toList := ⟨_, rfl⟩
      have PA : Hid (∀ w', Below wr.heap.size wr w' → Calls Tryz.prog 27 #[.string F] w' fun e w2 => e = .returned (.tuple #[.agg #[.int .i64 p1, .int .i64 p2, .int .i64 p3], .int .i64 pe]) ∧ Below w'.heap.size w' w2) := fun w' hb' => by
        have h := QParse_v F w' (by omega) (EN.out.below (BW.out.trans (hb'.mono BW.out.size)))
        rw [← hp1, ← hp2, ← hp3, ← hpe] at h
        exact h
      have PB : Hid (∀ w', Calls Tryz.prog 30 #[.string F] w' fun e w2 => e = .returned (.tuple #[.agg #[.int .i64 p1, .int .i64 p2, .int .i64 p3], .int .i64 pe]) ∧ Below w'.heap.size w' w2) := fun w' => by
        have h := rParse_v F w' (by omega)
        rw [← hp1, ← hp2, ← hp3, ← hpe] at h
        exact h
      have HR7 := Lib.hid hwr.out.size
      clear hp1 hp2 hp3 hpe hF
      go_wp2_with fail
      refine (PA.out _ (Below.refl _ _)).mono ?_; rintro e w8 ⟨rfl, b8⟩
      have n9 := below_new w8 (.cells #[.int .i64 p1, .int .i64 p2, .int .i64 p3] 39)
      have y9 := heap_alloc_new w8 (.cells #[.int .i64 p1, .int .i64 p2, .int .i64 p3] 39)
      obtain ⟨W9, hW9⟩ : ∃ W, W = w8.alloc (.cells #[.int .i64 p1, .int .i64 p2, .int .i64 p3] 39) := ⟨_, rfl⟩
      obtain ⟨gy, hgy⟩ : ∃ g, g = w8.heap.size := ⟨_, rfl⟩
      rw [← hW9] at n9 y9
      rw [← hgy] at y9
      have Y9 := Lib.hid y9
      have B9 := Lib.hid (b8.trans (n9.mono b8.size))
      clear n9 y9 b8 c0
      go_upto_region 5 with fail
      rw [← hW9, ← hgy]
      clear hW9 hgy
      go_wp2_with fail
      refine (PB.out _).mono ?_; rintro e w10 ⟨rfl, b10⟩
      have n11 := below_new w10 (.cells #[.int .i64 p1, .int .i64 p2, .int .i64 p3] 39)
      have y10 := carry Y9.out b10
      obtain ⟨k0, k1', k2, _⟩ := at_blockQ y10
      have hg10 := (Array.getElem?_eq_some_iff.1 y10).1
      have hne : gy ≠ w10.heap.size := by omega
      have B11 : Hid (Below W6.heap.size W6 (w10.alloc (.cells #[.int .i64 p1, .int .i64 p2, .int .i64 p3] 39))) := hwr.out.trans (((B9.out.trans (b10.mono B9.out.size)).trans (n11.mono (Nat.le_trans B9.out.size b10.size))).mono HR7.out)
      clear b10 n11 y10
      go_wp2_with fail
      go_roundw
      case rel => exact ⟨i + 1, by omega, by go_num, B11⟩
      case measure => simp [intOf]; omega
    · obtain rfl : i = 2 := by omega
      have AW := Lib.hid (awake8_v wr (EN.out.below BW.out))
      go_wp2_with fail
      refine AW.out.mono ?_; rintro e w9 ⟨rfl, b9⟩
      have B9 := Lib.hid (BW.out.trans (b9.mono BW.out.size))
      clear b9
      go_wp2_with fail
      go_ret
      exact ⟨rfl, B9.out⟩
end Go.Proofs.YtobiepkhommeaaaGreatDoor
/- QuantityReads holds for every input: Parse of any string, and of texts that are nearly quantities, answers as the reference; no condition. -/
namespace Go.Proofs.YtobiepkhommeaaaGreatDoor.lawQtyReads
open Go.ChangeShapes Go.WideShapes Go.ChangeAt Go.RowKit

set_option maxRecDepth 100000 in
set_option maxHeartbeats 1000000 in
theorem contract (H : Type) (enc : TypeId × Value → H) (W : World) (base : Nat) (args : Array Value) (ds gs : List (DataW H)) (before : List MemPlace)
    (hval : ∀ (j : Nat) t v, Tryz.f6.params[j]? = some t → args[j]? = some v → Value.okWide Tryz.prog W .any base t v)
    (hW : DataW.Whole enc Tryz.prog Tryz.f6.params.toList Rows.quantityReadsSpec.vars false W args.toList ds gs before) (hL : laidMetH Tryz.prog Rows.quantityReadsRow.laid W) (hsh : W.ShapedOpen Tryz.prog) :
    Calls Tryz.prog 6 args W fun e W' => ∃ v, e = .returned v ∧ Rows.quantityReadsSpec.post enc Tryz.prog Tryz.f6 false true false false W args v W' := by
  have hW' := hW
  obtain ⟨p, q, hA0, _, _, _, _⟩ := hW
  have hA : DataW.TrodAll enc Tryz.prog W 0 (fun _ => true) true Tryz.f6.params.toList args.toList ds p := hA0
  rw [Tryz.params6] at hA hval
  obtain ⟨v0, vs0, d0, ds0, p0, q0, hargs, rfl, rfl, h0, r0⟩ := trodAll_cons hA
  obtain ⟨v1, vs1, d1, ds1, p1, q1, rfl, rfl, rfl, h1, r1⟩ := trodAll_cons r0
  obtain ⟨rfl, rfl, rfl⟩ := trodAll_nil r1
  obtain rfl : args = #[v0, v1] := by cases args; simp_all
  obtain ⟨s0, rfl, _, _, hs0⟩ := Go.ChangeMaps.open_string Tryz.underlying9 (hval 0 9 v0 rfl rfl) h0
  obtain ⟨ao1, zs1, cap1, rfl, hr1⟩ := ints_open8 (hval 1 40 v1 rfl rfl) h1
  refine (QuantityReads_any s0 ao1 zs1 cap1 W hs0 hr1 (env_of (tab_of5 hL) hsh)).mono ?_
  rintro e W' ⟨rfl, hb⟩
  exact ⟨_, rfl, law_post hW' rfl rfl rfl (by rw [Tryz.params6]; exact facts.readable_of8 (by decide)) hb⟩

theorem laid_met (os : Os) : laidMet Tryz.prog Rows.quantityReadsRow.laid ((laidWorld5 os).forCall (fun _ _ => 0) ⟨#[], #[.string ⟨#[]⟩, .slice none 0 0], []⟩).memory :=
  laidMet_of_run' 8 (by kernel_rfl) (by kernel_rfl)
theorem reads (os : Os) {H : Type} (enc : TypeId × Value → H) : ∃ places, DataW.whole enc Tryz.prog ((laidWorld5 os).forCall (fun _ _ => 0) ⟨#[], #[.string ⟨#[]⟩, .slice none 0 0], []⟩).memory Tryz.f6.params.toList Rows.quantityReadsSpec.vars false #[Value.string ⟨#[]⟩, .slice none 0 0].toList 8 = some ([.lit (.string []), .nil], [], places) :=
  ⟨[], by kernel_rfl⟩

set_option maxRecDepth 100000 in
set_option maxHeartbeats 2000000 in
theorem lifted (os : Os) (started : os.Started) (H : Type) (enc : TypeId × Value → H) (F : Stop.Interp) :
    ReturnsInHanded {} Tryz.checked os 6 .any ((OpenSpec.ofChange Rows.quantityReadsSpec).preRow enc Tryz.prog Tryz.f6 Rows.quantityReadsRow.domain false Rows.quantityReadsRow.laid) (((OpenSpec.ofChange Rows.quantityReadsSpec).at F).post enc Tryz.prog Tryz.f6 false true false false) := by
  obtain ⟨places, hx⟩ := reads os enc
  refine returnsInHanded_of_row (C := Tryz.checked) (s := OpenSpec.ofChange Rows.quantityReadsSpec) fr_own started (by kernel_rfl) Tryz.func6
    (witness_row_at (enc := enc) (C := Tryz.checked) false (laidWorld5 os) #[.string ⟨#[]⟩, .slice none 0 0] rfl (by kernel_rfl) (by kernel_rfl) (by kernel_rfl)
      (OpenSpec.preRow_of_cond 8 hx (by kernel_rfl) (fun k hk => by cases hk) (by kernel_rfl) (laid_met os))) ?_
  intro W base args ds gs before hval hW _ _ _ hL hsh _
  exact contract H enc W base args ds gs before hval hW hL hsh

set_option maxHeartbeats 8000000 in
theorem closed : joinedFacts Tryz.prog 6 Tryz.f6 Rows.quantityReadsSpec Rows.quantityReadsRow = true := by
  unfold joinedFacts
  repeat' (with_reducible refine facts.and_mk ?_ ?_)
  all_goals first
    | (with_reducible exact facts.laidOut) | (with_reducible exact facts.rowed) | (with_reducible exact facts.stops) | (with_reducible exact facts.stopKnobs) | (with_reducible exact facts.stopsHeard) | (with_reducible exact facts.mayEnter)
    | ((with_reducible refine facts.plainKeys_of ?_); rfl) | ((with_reducible refine facts.lifted_of ?_); rfl) | ((with_reducible refine facts.make_of ?_); rfl)
    | (as_aux_lemma => kernel_rfl)

set_option maxRecDepth 100000 in
theorem said : Rows.QuantityReadsSaid :=
  OpenClaim.holds_of_cond 6 Tryz.f6 rfl rfl rfl rfl rfl rfl rfl ⟨rfl, rfl, rfl, rfl, rfl⟩ rfl rfl rfl rfl rfl (by kernel_rfl) Tryz.func6 closed
    (of_decide_eq_true (by kernel_rfl)) (by unfold Func.isWrapper; first | (rw [if_pos (by decide +kernel)]; kernel_rfl) | (rw [if_neg (by decide +kernel)]; exact ⟨rfl, rfl⟩))
    (fun os started H enc _ F => by rw [OpenClaim.pre_eq_preRow]; exact lifted os started H enc F)

theorem plain (f : FuncId) (fn : Func) (hf : Tryz.pinned.checked.prog.funcNamed "priceoffice/priceofficelaw08.QuantityReads" = some f) (hfn : Tryz.pinned.checked.prog.funcs[f]? = some fn) :
    Rows.rationalApartCard.stood.looks = Tryz.pinned.checked.prog.looks [] ∧ ∀ (j : Nat) t, fn.params[j]? = some t → Tryz.pinned.checked.prog.wantsStandIn t = false := by
  obtain rfl : f = 6 := Option.some.inj ((show Tryz.prog.funcNamed "priceoffice/priceofficelaw08.QuantityReads" = some 6 by kernel_rfl).symm.trans hf) |>.symm
  obtain rfl : fn = Tryz.f6 := (Option.some.inj (Tryz.func6.symm.trans hfn)).symm
  refine ⟨facts.looks, fun j t ht => ?_⟩
  rw [Tryz.params6] at ht
  exact facts.standIn_of8 (by decide) j t ht

theorem card : Rows.QuantityReadsCardSaid :=
  Claim7.holds_tied_plain_at .later [] _ _ _ _ said (fun _ h => by cases h) (by kernel_rfl) (fun _ h => by cases h) quantityReads_row_tie rfl ⟨rfl, rfl⟩ facts.mainIs rfl plain (by kernel_rfl)
end Go.Proofs.YtobiepkhommeaaaGreatDoor.lawQtyReads
