import Derived.Test.YtmhjimcdiglpcaaGreatFrmZ
import Derived.Test.YtmhjimcdiglpcaaGreatLawSmpBreaks
/- SampleBreaks holds for every input: for any sizes and number and every tape of integers: Breaks returns the starts or the error that the document's own answers say, for sizes cut to twelve and for made ones; no condition. -/
namespace Go.Proofs.YtmhjimcdiglpcaaGreat.lawSmpBreaks
open Go.ChangeShapes Go.WideShapes Go.ChangeAt Go.RowKit P9 S10 Dr

set_option maxRecDepth 100000 in
set_option maxHeartbeats 1000000 in
theorem contract (H : Type) (enc : TypeId × Value → H) (W : World) (base : Nat) (args : Array Value) (ds gs : List (DataW H)) (before : List MemPlace)
    (hval : ∀ (j : Nat) t v, Tryz.f4.params[j]? = some t → args[j]? = some v → Value.okWide Tryz.prog W .any base t v)
    (hW : DataW.Whole enc Tryz.prog Tryz.f4.params.toList Rows.sampleBreaksSpec.vars false W args.toList ds gs before) (_ : laidMetH Tryz.prog Rows.sampleBreaksRow.laid W) :
    Calls Tryz.prog 4 args W fun e W' => ∃ v, e = .returned v ∧ Rows.sampleBreaksSpec.post enc Tryz.prog Tryz.f4 false true false false W args v W' := by
  have hW' := hW
  obtain ⟨p, q, hA0, _, _, _, _⟩ := hW
  have hA : DataW.TrodAll enc Tryz.prog W 0 (fun _ => true) true Tryz.f4.params.toList args.toList ds p := hA0
  rw [Tryz.params4] at hA hval
  obtain ⟨v0, vs0, d0, ds0, p0, q0, hargs, rfl, rfl, h0, r0⟩ := trodAll_cons hA
  obtain ⟨v1, vs1, d1, ds1, p1, q1, rfl, rfl, rfl, h1, r1⟩ := trodAll_cons r0
  obtain ⟨v2, vs2, d2, ds2, p2, q2, rfl, rfl, rfl, h2, r2⟩ := trodAll_cons r1
  obtain ⟨rfl, rfl, rfl⟩ := trodAll_nil r2
  obtain rfl : args = #[v0, v1, v2] := by cases args; simp_all
  obtain ⟨ao0, zs0, cap0, rfl, hr0⟩ := ints64_open10 (hval 0 26 v0 rfl rfl) h0
  obtain ⟨x1, rfl, _, _, wx1⟩ := open_int Tryz.underlying3 (hval 1 3 v1 rfl rfl) h1
  have wb1 : -9223372036854775808 ≤ x1 ∧ x1 ≤ 9223372036854775807 := by
    have e1 : IntKind.i64.min = -9223372036854775808 := rfl
    have e2 : IntKind.i64.max = 9223372036854775807 := rfl
    simp [Lit.wf] at wx1
    omega
  obtain ⟨ao2, zs2, cap2, rfl, hr2⟩ := ints_open9 (hval 2 22 v2 rfl rfl) h2
  refine (SampleBreaks_any ao0 zs0 cap0 x1 ao2 zs2 cap2 W hr0 hr2).mono ?_
  rintro e W' ⟨rfl, hb⟩
  exact ⟨_, rfl, law_post9 hW' rfl rfl rfl (by rw [Tryz.params4]; exact facts.readable_of10o (by decide)) hb⟩

theorem laid_met (os : Os) : laidMet Tryz.prog Rows.sampleBreaksRow.laid ((laidWorld9 os).forCall (fun _ _ => 0) ⟨#[], #[.slice none 0 0, .int .i64 0, .slice none 0 0], []⟩).memory :=
  laidMet_of_run' 8 (by kernel_rfl) (by kernel_rfl)
theorem reads (os : Os) {H : Type} (enc : TypeId × Value → H) : ∃ places, DataW.whole enc Tryz.prog ((laidWorld9 os).forCall (fun _ _ => 0) ⟨#[], #[.slice none 0 0, .int .i64 0, .slice none 0 0], []⟩).memory Tryz.f4.params.toList Rows.sampleBreaksSpec.vars false #[Value.slice none 0 0, .int .i64 0, .slice none 0 0].toList 8 = some ([.nil, .lit (.int .i64 0), .nil], [], places) :=
  ⟨[], by kernel_rfl⟩

set_option maxRecDepth 100000 in
set_option maxHeartbeats 2000000 in
theorem lifted (os : Os) (started : os.Started) (H : Type) (enc : TypeId × Value → H) (F : Stop.Interp) :
    ReturnsInHanded {} Tryz.checked os 4 .any ((OpenSpec.ofChange Rows.sampleBreaksSpec).preRow enc Tryz.prog Tryz.f4 Rows.sampleBreaksRow.domain false Rows.sampleBreaksRow.laid) (((OpenSpec.ofChange Rows.sampleBreaksSpec).at F).post enc Tryz.prog Tryz.f4 false true false false) := by
  obtain ⟨places, hx⟩ := reads os enc
  refine returnsInHanded_of_row (C := Tryz.checked) (s := OpenSpec.ofChange Rows.sampleBreaksSpec) P9.fr_own started (by kernel_rfl) Tryz.func4
    (witness_row_at (enc := enc) (C := Tryz.checked) false (laidWorld9 os) #[.slice none 0 0, .int .i64 0, .slice none 0 0] rfl (by kernel_rfl) (by kernel_rfl) (by kernel_rfl)
      (OpenSpec.preRow_of_cond 8 hx (by kernel_rfl) (fun k hk => by cases hk) (by kernel_rfl) (laid_met os))) ?_
  intro W base args ds gs before hval hW _ _ _ hL _ _
  exact contract H enc W base args ds gs before hval hW hL

set_option maxHeartbeats 8000000 in
theorem closed : joinedFacts Tryz.prog 4 Tryz.f4 Rows.sampleBreaksSpec Rows.sampleBreaksRow = true := by
  unfold joinedFacts
  repeat' (with_reducible refine facts.and_mk ?_ ?_)
  all_goals first
    | (with_reducible exact facts.laidOut) | (with_reducible exact facts.rowed) | (with_reducible exact facts.stops) | (with_reducible exact facts.stopKnobs) | (with_reducible exact facts.stopsHeard) | (with_reducible exact facts.mayEnter)
    | ((with_reducible refine facts.plainKeys_of ?_); rfl) | ((with_reducible refine facts.lifted_of ?_); rfl) | ((with_reducible refine facts.make_of ?_); rfl)
    | (as_aux_lemma => kernel_rfl)

set_option maxRecDepth 100000 in
theorem said : Rows.SampleBreaksSaid :=
  OpenClaim.holds_of_cond 4 Tryz.f4 rfl rfl rfl rfl rfl rfl rfl ⟨rfl, rfl, rfl, rfl, rfl⟩ rfl rfl rfl rfl rfl (by kernel_rfl) Tryz.func4 closed
    (of_decide_eq_true (by kernel_rfl)) (by unfold Func.isWrapper; first | (rw [if_pos (by decide +kernel)]; kernel_rfl) | (rw [if_neg (by decide +kernel)]; exact ⟨rfl, rfl⟩))
    (fun os started H enc _ F => by rw [OpenClaim.pre_eq_preRow]; exact lifted os started H enc F)
end Go.Proofs.YtmhjimcdiglpcaaGreat.lawSmpBreaks
