import Derived.Test.YtdcnkebcpaelpaaGreatDoorFrame
import Derived.Lib.SmallJoins
import Derived.Test.YtdcnkebcpaelpaaGreatDoorFacts
/- A Ratio parameter: a struct of a bool and two slices. -/
namespace Go.Proofs.YtdcnkebcpaelpaaGreatDoor
open Go.ChangeShapes Go.WideShapes Go.ChangeAt Go.RowKit

set_option maxRecDepth 100000 in
/-- a slice of limbs in a field -/
theorem nat_trod {H : Type} {enc : TypeId × Value → H} {W : World} {fuel : Nat} {v : Value} {y : DataW H × List MemPlace}
    (hf : DataW.trod enc Tryz.prog W 0 (fun _ => true) true fuel 23 [v] = some y) : ∃ ao xs cap, v = .slice ao xs.length cap ∧ Rd W ao cap xs := by
  obtain ⟨a0, len, cap, e0⟩ := Joins.slice_form Tryz.underlying23 hf
  obtain rfl : v = .slice a0 len cap := by simpa using e0
  rcases open_ints Tryz.underlying23 Tryz.underlying35 cellsU32 hf with ⟨hcs, _⟩ | ⟨a, len', cap', zs, hcs, _, hl, hm, hz, _, hcell, hwz⟩
  · simp at hcs
    obtain ⟨rfl, rfl, rfl⟩ := hcs
    exact ⟨none, [], 0, rfl, Rd.nil W⟩
  · simp at hcs
    obtain ⟨rfl, rfl, rfl⟩ := hcs
    simp only [if_true] at hz
    obtain ⟨xs, hxs⟩ : ∃ xs, xs = (zs.take len).map Int.toNat := ⟨_, rfl⟩
    have hlen : xs.length = len := by rw [hxs, List.length_map, List.length_take]; omega
    have hlm : ∀ i, i < len → ((lm xs i : Nat) : Int) = zs.getD i 0 ∧ lm xs i < 4294967296 := fun i hi => by
      have hi2 : i < zs.length := by omega
      have hw := hwz (zs[i]) (List.getElem_mem hi2)
      have hb : 0 ≤ zs[i] ∧ zs[i] < 4294967296 := by
        have e1 : IntKind.u32.min = 0 := rfl
        have e2 : IntKind.u32.max = 4294967295 := rfl
        simp [Lit.wf] at hw
        omega
      rw [lm_get xs i (by omega)]
      simp only [hxs, List.getElem_map, List.getElem_take, List.getD, List.getElem?_eq_getElem hi2, Option.getD_some]
      omega
    refine ⟨some a, xs, cap, by rw [hlen], by omega, by unfold maxLen at hm; omega, fun i => ?_, ?_⟩
    · by_cases hi : i < len
      · exact (hlm i hi).2
      · rw [lm_ge xs i (by omega)]; omega
    · by_cases h0 : len = 0
      · exact .inl ⟨List.eq_nil_of_length_eq_zero (by omega), fun h => by cases h⟩
      · obtain ⟨b, o, sp⟩ := a
        have hc0 := hcell 0 (by omega)
        have hsp : sp = none := by
          cases sp with
          | none => rfl
          | some s => simp [Addr.add, World.cell?] at hc0; split at hc0 <;> simp at hc0
        subst hsp
        refine .inr ⟨b, o, rfl, fun i hi => ?_⟩
        have := hcell i (by omega)
        rw [Addr.add_lit] at this
        rw [this, (hlm i (by omega)).1]

set_option maxRecDepth 100000 in
theorem ratio_open {H : Type} {enc : TypeId × Value → H} {W : World} {base : Nat} {v : Value} {d : DataW H} {p : List MemPlace} (hval : Value.okWide Tryz.prog W .any base 25 v)
    (h : DataW.Trod enc Tryz.prog W 0 (fun _ => true) true 25 v d p) : ∃ s ao xs ca bo ys cb, v = .agg #[.bool s, .slice ao xs.length ca, .slice bo ys.length cb] ∧ Rd W ao ca xs ∧ Rd W bo cb ys := by
  obtain ⟨v0, v1, v2, y0, y1, y2, n, rfl, rfl, rfl, h0, h1, h2⟩ := Joins.open_agg3 Tryz.underlying25 (by kernel_rfl) (by kernel_rfl) hval h
  obtain ⟨s, e0, _⟩ := DataW.trod_bool Tryz.underlying4 h0
  obtain rfl : v0 = .bool s := by simpa using e0
  obtain ⟨ao, xs, ca, rfl, hr1⟩ := nat_trod h1
  obtain ⟨bo, ys, cb, rfl, hr2⟩ := nat_trod h2
  exact ⟨s, ao, xs, ca, bo, ys, cb, rfl, hr1, hr2⟩
end Go.Proofs.YtdcnkebcpaelpaaGreatDoor
/- Closed facts on the parameters of layer 2's laws. -/
namespace Go.Proofs.YtdcnkebcpaelpaaGreatDoor.facts
open Go.ChangeShapes Go.WideShapes Go.ChangeAt Go.RowKit
def kinds2 : List TypeId := [23, 25, 3, 2]
theorem readable2 : ∀ t ∈ kinds2, Tryz.prog.readableRec t = true ∧ t < Tryz.prog.types.size := by
  have h : (kinds2.all fun t => Tryz.prog.readableRec t && decide (t < Tryz.prog.types.size)) = true := by kernel_rfl
  intro t ht
  have := List.all_eq_true.1 h t ht
  simpa using this
theorem standIn2 : ∀ t ∈ kinds2, Tryz.prog.wantsStandIn t = false := by
  have h : (kinds2.all fun t => !Tryz.prog.wantsStandIn t) = true := by kernel_rfl
  intro t ht
  have := List.all_eq_true.1 h t ht
  simpa using this
theorem readable_of2 {ts : Array TypeId} (h : (ts.toList.all fun t => kinds2.contains t) = true) : ∀ t ∈ ts.toList, Tryz.prog.readableRec t = true ∧ t < Tryz.prog.types.size := fun t ht =>
  readable2 t (by have := List.all_eq_true.1 h t ht; simpa using this)
theorem standIn_of2 {ts : Array TypeId} (h : (ts.toList.all fun t => kinds2.contains t) = true) : ∀ (j : Nat) t, ts[j]? = some t → Tryz.prog.wantsStandIn t = false := fun j t ht =>
  standIn2 t (by have := List.all_eq_true.1 h t (by simpa using Array.mem_of_getElem? ht); simpa using this)
end Go.Proofs.YtdcnkebcpaelpaaGreatDoor.facts
