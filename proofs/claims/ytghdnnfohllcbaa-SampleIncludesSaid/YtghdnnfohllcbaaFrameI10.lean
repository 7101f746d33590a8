import Derived.Test.YtghdnnfohllcbaaFrame9
/- A parameter of type []int64. -/
namespace Go.Proofs.Ytghdnnfohllcbaa.P9
open Go.ChangeShapes Go.WideShapes Go.ChangeAt Go.RowKit C6

theorem cellsI64z : Try.prog.cellsOf 2 = 1 := by kernel_rfl
set_option maxRecDepth 100000 in
/-- a parameter of type []int64: a slice that reads some integers -/
theorem ints64_open10 {H : Type} {enc : TypeId × Value → H} {W : World} {base : Nat} {v : Value} {d : DataW H} {p : List MemPlace} (hval : Value.okWide Try.prog W .any base 49 v)
    (h : DataW.Trod enc Try.prog W 0 (fun _ => true) true 49 v d p) : ∃ ao zs cap, v = .slice ao zs.length cap ∧ RdZ W ao cap zs := by
  obtain ⟨a0, len, cap, rfl⟩ := okWide_slice Try.underlying49 hval
  obtain ⟨fuel, hf⟩ := h
  rcases open_ints Try.underlying49 Try.underlying2 cellsI64z hf with ⟨hcs, _⟩ | ⟨a, len', cap', zs, hcs, _, hl, hm, hz, _, hcell, hwz⟩
  · simp [Value.cells] at hcs
    obtain ⟨rfl, rfl, rfl⟩ := hcs
    exact ⟨none, [], 0, rfl, RdV.nil _⟩
  · simp [Value.cells] at hcs
    obtain ⟨rfl, rfl, rfl⟩ := hcs
    simp only [if_true] at hz
    have hlen : (zs.take len).length = len := by rw [List.length_take]; omega
    refine ⟨some a, zs.take len, cap, by rw [hlen], by rw [intz_length]; omega, by unfold maxLen at hm; omega, ?_⟩
    by_cases h0 : len = 0
    · exact .inl ⟨by rw [h0]; rfl, fun h => by cases h⟩
    · obtain ⟨b, o, sp⟩ := a
      have hc0 := hcell 0 (by omega)
      have hsp : sp = none := by
        cases sp with
        | none => rfl
        | some s => simp [Addr.add, World.cell?] at hc0; split at hc0 <;> simp at hc0
      subst hsp
      refine .inr ⟨b, o, rfl, fun i v hi => ?_⟩
      have hil := (List.getElem?_eq_some_iff.1 hi).1
      rw [intz_length, hlen] at hil
      have := hcell i (by omega)
      rw [Addr.add_lit] at this
      rw [this]
      have hzl : i < zs.length := by omega
      simp [intz, hil, hzl] at hi
      rw [← hi]
      simp [List.getD, hzl]
end Go.Proofs.Ytghdnnfohllcbaa.P9
