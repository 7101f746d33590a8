import Derived.Test.YtobiepkhommeaaaDoorQtysB
import Derived.Test.YtobiepkhommeaaaDoorFacts8g
/- QuantityValid: the walk. -/
namespace Go.Proofs.YtobiepkhommeaaaDoor
open Go.RowKit

set_option maxHeartbeats 8000000 in
set_option maxRecDepth 100000 in
theorem QuantityValid_any (d c a : Int) (w : World) (hb : QB d c a) (he : Env w) :
    Calls Tryd.prog 3 #[.agg #[.int .i64 d, .int .i64 c, .int .i64 a]] w fun e w' => e = .returned (.bool true) ∧ Below w.heap.size w w' := by
  obtain ⟨y, hy⟩ : ∃ y, y = qwhy d c a := ⟨_, rfl⟩
  obtain ⟨t, ht⟩ : ∃ t, t = qtot d c a := ⟨_, rfl⟩
  have C1 : Hid (∀ w, Calls Tryd.prog 5 #[.agg #[.int .i64 d, .int .i64 c, .int .i64 a]] w fun e w' => e = .returned (.int .i64 y) ∧ Below w.heap.size w w') := fun w => by rw [hy]; exact Validate_q d c a hb w
  have C2 : Hid (∀ w, Calls Tryd.prog 6 #[.agg #[.int .i64 d, .int .i64 c, .int .i64 a]] w fun e w' => e = .returned (.int .i64 y) ∧ Below w.heap.size w w') := fun w => by rw [hy]; exact rValidate_q d c a hb w
  have C3 : Hid (∀ w, Calls Tryd.prog 7 #[.agg #[.int .i64 d, .int .i64 c, .int .i64 a]] w fun e w' => e = .returned (.int .i64 t) ∧ Below w.heap.size w w') := fun w => by rw [ht]; exact Total_q d c a hb w
  have C4 : Hid (∀ w, Calls Tryd.prog 8 #[.agg #[.int .i64 d, .int .i64 c, .int .i64 a]] w fun e w' => e = .returned (.int .i64 t) ∧ Below w.heap.size w w') := fun w => by rw [ht]; exact rTotal_q d c a hb w
  obtain ⟨W1, hW1⟩ : ∃ W1, W1 = w.alloc (.cells #[.int .i64 d, .int .i64 c, .int .i64 a] 23) := ⟨_, rfl⟩
  have B0 := below_new w (.cells #[.int .i64 d, .int .i64 c, .int .i64 a] 23)
  have x0 := heap_alloc_new w (.cells #[.int .i64 d, .int .i64 c, .int .i64 a] 23)
  rw [← hW1] at B0 x0
  have EN := Lib.hid (he.below B0)
  have K : Hid (∀ w', Below W1.heap.size W1 w' → w'.cell? ⟨w.heap.size, 0, none⟩ = some (.int .i64 d) ∧ w'.cell? ⟨w.heap.size, 1, none⟩ = some (.int .i64 c) ∧ w'.cell? ⟨w.heap.size, 2, none⟩ = some (.int .i64 a) ∧ Below W1.heap.size W1 w') := fun w' g => by
    obtain ⟨k0, k1, k2, _⟩ := at_blockQ (carry x0 g)
    exact ⟨k0, k1, k2, g⟩
  have AW : Hid (∀ w', Below W1.heap.size W1 w' → Calls Tryd.prog 9 #[] w' fun e w2 => e = .returned (.bool true) ∧ Below w'.heap.size w' w2) := fun w' g => awake8_v w' (EN.out.below g)
  clear hy ht hb he x0
  go_enter Tryd.func3, Tryd.ntmps3
  go_wp2_with fail
  rw [← hW1]
  clear hW1
  go_region_held3 (fun w' => w'.cell? ⟨w.heap.size, 0, none⟩ = some (.int .i64 d) ∧ w'.cell? ⟨w.heap.size, 1, none⟩ = some (.int .i64 c) ∧ w'.cell? ⟨w.heap.size, 2, none⟩ = some (.int .i64 a) ∧ Below W1.heap.size W1 w')
    (first | exact K.out _ (Below.refl _ _).drew | exact K.out _ (Below.refl _ _) | exact K.out _ (keepB b1 (by assumption) (Nat.le_refl _)) | exact K.out _ (keepB b2 (by assumption) (Nat.le_refl _)) | exact K.out _ (keepB b3 (by assumption) (Nat.le_refl _)) | exact K.out _ (keepB b4 (by assumption) (Nat.le_refl _)) | exact K.out _ (keepB b5 (by assumption) (Nat.le_refl _)))
    (first
      | (go_at_call 5; go_split_ands; refine (C1.out _).mono ?_; rintro e w1 ⟨rfl, b1⟩)
      | (go_at_call 6; go_split_ands; refine (C2.out _).mono ?_; rintro e w2 ⟨rfl, b2⟩)
      | (go_at_call 7; go_split_ands; refine (C3.out _).mono ?_; rintro e w3 ⟨rfl, b3⟩)
      | (go_at_call 8; go_split_ands; refine (C4.out _).mono ?_; rintro e w4 ⟨rfl, b4⟩)
      | (go_at_call 9; go_split_ands; refine (AW.out _ (by assumption)).mono ?_; rintro e w5 ⟨rfl, b5⟩; have BW : Below W1.heap.size W1 w5 := keepB b5 (by assumption) (Nat.le_refl _)))
  go_wp2_with fail
  go_ret
  exact ⟨rfl, B0.trans (BW.mono B0.size)⟩
end Go.Proofs.YtobiepkhommeaaaDoor
/- QuantityValid holds for every input: Validate and Total of any quantity answer as the reference; no condition. -/
namespace Go.Proofs.YtobiepkhommeaaaDoor.lawQtyValid
open Go.ChangeShapes Go.WideShapes Go.ChangeAt Go.RowKit

set_option maxRecDepth 100000 in
set_option maxHeartbeats 1000000 in
theorem contract (H : Type) (enc : TypeId × Value → H) (W : World) (base : Nat) (args : Array Value) (ds gs : List (DataW H)) (before : List MemPlace)
    (hval : ∀ (j : Nat) t v, Tryd.f3.params[j]? = some t → args[j]? = some v → Value.okWide Tryd.prog W .any base t v)
    (hW : DataW.Whole enc Tryd.prog Tryd.f3.params.toList Rows.quantityValidSpec.vars false W args.toList ds gs before) (hL : laidMetH Tryd.prog Rows.quantityValidRow.laid W) (hsh : W.ShapedOpen Tryd.prog) :
    Calls Tryd.prog 3 args W fun e W' => ∃ v, e = .returned v ∧ Rows.quantityValidSpec.post enc Tryd.prog Tryd.f3 false true false false W args v W' := by
  have hW' := hW
  obtain ⟨p, q, hA0, _, _, _, _⟩ := hW
  have hA : DataW.TrodAll enc Tryd.prog W 0 (fun _ => true) true Tryd.f3.params.toList args.toList ds p := hA0
  rw [Tryd.params3] at hA hval
  obtain ⟨v0, vs0, d0, ds0, p0, q0, hargs, rfl, rfl, h0, r0⟩ := trodAll_cons hA
  obtain ⟨rfl, rfl, rfl⟩ := trodAll_nil r0
  obtain rfl : args = #[v0] := by cases args; simp_all
  obtain ⟨d0, c0, a0, rfl, bq0⟩ := qty_open (hval 0 23 v0 rfl rfl) h0
  refine (QuantityValid_any d0 c0 a0 W bq0 (env_of (tab_of5 hL) hsh)).mono ?_
  rintro e W' ⟨rfl, hb⟩
  exact ⟨_, rfl, law_post hW' rfl rfl rfl (by rw [Tryd.params3]; exact facts.readable_of8 (by decide)) hb⟩

theorem laid_met (os : Os) : laidMet Tryd.prog Rows.quantityValidRow.laid ((laidWorld5 os).forCall (fun _ _ => 0) ⟨#[], #[.agg #[.int .i64 0, .int .i64 0, .int .i64 0]], []⟩).memory :=
  laidMet_of_run' 8 (by kernel_rfl) (by kernel_rfl)
theorem reads (os : Os) {H : Type} (enc : TypeId × Value → H) : ∃ places, DataW.whole enc Tryd.prog ((laidWorld5 os).forCall (fun _ _ => 0) ⟨#[], #[.agg #[.int .i64 0, .int .i64 0, .int .i64 0]], []⟩).memory Tryd.f3.params.toList Rows.quantityValidSpec.vars false #[Value.agg #[.int .i64 0, .int .i64 0, .int .i64 0]].toList 8 = some ([.agg [.lit (.int .i64 0), .lit (.int .i64 0), .lit (.int .i64 0)]], [], places) :=
  ⟨[], by kernel_rfl⟩

set_option maxRecDepth 100000 in
set_option maxHeartbeats 2000000 in
theorem lifted (os : Os) (started : os.Started) (H : Type) (enc : TypeId × Value → H) (F : Stop.Interp) :
    ReturnsInHanded {} Tryd.checked os 3 .any ((OpenSpec.ofChange Rows.quantityValidSpec).preRow enc Tryd.prog Tryd.f3 Rows.quantityValidRow.domain false Rows.quantityValidRow.laid) (((OpenSpec.ofChange Rows.quantityValidSpec).at F).post enc Tryd.prog Tryd.f3 false true false false) := by
  obtain ⟨places, hx⟩ := reads os enc
  refine returnsInHanded_of_row (C := Tryd.checked) (s := OpenSpec.ofChange Rows.quantityValidSpec) fr_own started (by kernel_rfl) Tryd.func3
    (witness_row_at (enc := enc) (C := Tryd.checked) false (laidWorld5 os) #[.agg #[.int .i64 0, .int .i64 0, .int .i64 0]] rfl (by kernel_rfl) (by kernel_rfl) (by kernel_rfl)
      (OpenSpec.preRow_of_cond 8 hx (by kernel_rfl) (fun k hk => by cases hk) (by kernel_rfl) (laid_met os))) ?_
  intro W base args ds gs before hval hW _ _ _ hL hsh _
  exact contract H enc W base args ds gs before hval hW hL hsh

set_option maxHeartbeats 8000000 in
theorem closed : joinedFacts Tryd.prog 3 Tryd.f3 Rows.quantityValidSpec Rows.quantityValidRow = true := by
  unfold joinedFacts
  repeat' (with_reducible refine facts.and_mk ?_ ?_)
  all_goals first
    | (with_reducible exact facts.laidOut) | (with_reducible exact facts.rowed) | (with_reducible exact facts.stops) | (with_reducible exact facts.stopKnobs) | (with_reducible exact facts.stopsHeard) | (with_reducible exact facts.mayEnter)
    | ((with_reducible refine facts.plainKeys_of ?_); rfl) | ((with_reducible refine facts.lifted_of ?_); rfl) | ((with_reducible refine facts.make_of ?_); rfl)
    | (as_aux_lemma => kernel_rfl)

set_option maxRecDepth 100000 in
theorem said : Rows.QuantityValidSaid :=
  OpenClaim.holds_of_cond 3 Tryd.f3 rfl rfl rfl rfl rfl rfl rfl ⟨rfl, rfl, rfl, rfl, rfl⟩ rfl rfl rfl rfl rfl (by kernel_rfl) Tryd.func3 closed
    (of_decide_eq_true (by kernel_rfl)) (by unfold Func.isWrapper; first | (rw [if_pos (by decide +kernel)]; kernel_rfl) | (rw [if_neg (by decide +kernel)]; exact ⟨rfl, rfl⟩))
    (fun os started H enc _ F => by rw [OpenClaim.pre_eq_preRow]; exact lifted os started H enc F)

theorem plain (f : FuncId) (fn : Func) (hf : Tryd.pinned.checked.prog.funcNamed "priceoffice/priceofficelaw08.QuantityValid" = some f) (hfn : Tryd.pinned.checked.prog.funcs[f]? = some fn) :
    Rows.quantityValidCard.stood.looks = Tryd.pinned.checked.prog.looks [] ∧ ∀ (j : Nat) t, fn.params[j]? = some t → Tryd.pinned.checked.prog.wantsStandIn t = false := by
  obtain rfl : f = 3 := Option.some.inj ((show Tryd.prog.funcNamed "priceoffice/priceofficelaw08.QuantityValid" = some 3 by kernel_rfl).symm.trans hf) |>.symm
  obtain rfl : fn = Tryd.f3 := (Option.some.inj (Tryd.func3.symm.trans hfn)).symm
  refine ⟨facts.looks, fun j t ht => ?_⟩
  rw [Tryd.params3] at ht
  exact facts.standIn_of8 (by decide) j t ht

theorem card : Rows.QuantityValidCardSaid :=
  Claim7.holds_tied_plain_at .later [] _ _ _ _ said (fun _ h => by cases h) (by kernel_rfl) (fun _ h => by cases h) quantityValid_row_tie rfl ⟨rfl, rfl⟩ facts.mainIs rfl plain (by kernel_rfl)
end Go.Proofs.YtobiepkhommeaaaDoor.lawQtyValid
