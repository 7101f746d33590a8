import Derived.Test.YtdcnkebcpaelpaaFrame9
import Derived.Test.YtdcnkebcpaelpaaTfA0
import Derived.Deep.SlicePairs
/- Parameters of type api.Tariff (a number and a slice of pairs of numbers) and []api.Use. -/
namespace Go.Proofs.Ytdcnkebcpaelpaa.T14
open Go.ChangeShapes Go.WideShapes Go.ChangeAt Go.RowKit C6

set_option maxRecDepth 100000 in
theorem blocks_trod {H : Type} {enc : TypeId × Value → H} {W : World} {v : Value} {x : DataW H × List MemPlace} {fuel : Nat}
    (h : DataW.trod enc Try.prog W 0 (fun _ => true) true fuel 22 [v] = some x) : ∃ ao l cap, v = .slice ao l.length cap ∧ RdK W ao cap l := by
  rcases Go.Deep.open_slice_pairs Try.underlying22 Try.underlying51 (by kernel_rfl) rfl rfl (by kernel_rfl) (by kernel_rfl) h with ⟨hcs, _⟩ | ⟨a, len, cap, m, n, V0, V1, D0, D1, P0, P1, hcs, _, hl, hm, hmm, _, hi⟩
  · simp at hcs
    subst hcs
    exact ⟨none, [], 0, rfl, RdK.nil _⟩
  · simp at hcs
    subst hcs
    simp only [if_true] at hmm
    have key : ∀ i, i < len → ∃ y : Int × Int, W.cell? (a.add (i * 2)) = some (.int .i64 y.1) ∧ W.cell? (a.add (i * 2 + 1)) = some (.int .i64 y.2) := fun i hil => by
      obtain ⟨q0, q1, t0, t1⟩ := hi i (by omega)
      obtain ⟨s0, e0, _⟩ := DataW.trod_int Try.underlying2 t0
      obtain ⟨s1, e1, _⟩ := DataW.trod_int Try.underlying2 t1
      simp at e0 e1
      rw [e0] at q0
      rw [e1] at q1
      exact ⟨(s0, s1), q0, q1⟩
    obtain ⟨f, hf⟩ := Go.Deep.choose_lt (α := Int × Int) key
    have hln : ((List.range len).map f).length = len := by simp
    have hget : ∀ i, i < len → ((List.range len).map f).getD i (0, 0) = f i := fun i hi => by simp [List.getD, hi]
    refine ⟨some a, (List.range len).map f, cap, by rw [hln], ⟨by omega, by unfold maxLen at hm; omega, ?_⟩⟩
    · by_cases h0 : len = 0
      · exact .inl ⟨List.eq_nil_of_length_eq_zero (by omega), fun h => by cases h⟩
      · obtain ⟨b, o, sp⟩ := a
        obtain ⟨hc0, _⟩ := hf 0 (by omega)
        have hsp : sp = none := by
          cases sp with
          | none => rfl
          | some s => simp [Addr.add, World.cell?] at hc0; split at hc0 <;> simp at hc0
        subst hsp
        refine .inr ⟨b, o, rfl, fun i hi => ?_⟩
        obtain ⟨g0, g1⟩ := hf i (by omega)
        rw [Addr.add_lit] at g0 g1
        rw [hget i (by omega)]
        exact ⟨g0, g1⟩
set_option maxRecDepth 100000 in
theorem tariff_open14 {H : Type} {enc : TypeId × Value → H} {W : World} {base : Nat} {v : Value} {d : DataW H} {p : List MemPlace} (hval : Value.okWide Try.prog W .any base 24 v)
    (h : DataW.Trod enc Try.prog W 0 (fun _ => true) true 24 v d p) : ∃ (st : Int) (ao : Option Addr) (l : List (Int × Int)) (cap : Nat), v = .agg #[.int .i64 st, .slice ao l.length cap] ∧ RdK W ao cap l := by
  obtain ⟨cs, rfl, hsz⟩ := okWide_struct Try.underlying24 hval
  have hC : Try.prog.cellsOf 24 = 2 := by kernel_rfl
  rw [hC] at hsz
  obtain ⟨c0, c1, rfl⟩ : ∃ c0 c1, cs = #[c0, c1] := by
    obtain ⟨l⟩ := cs
    match l, hsz with
    | [c0, c1], _ => exact ⟨c0, c1, rfl⟩
  obtain ⟨fuel, hf⟩ := h
  obtain ⟨xs, n, _, _, _, hln, hx⟩ := DataW.trod_struct Try.underlying24 hf
  have cJ : Try.prog.cellsOf 2 = 1 := by kernel_rfl
  have cL : Try.prog.cellsOf 22 = 1 := by kernel_rfl
  obtain ⟨y0, y1, rfl⟩ : ∃ y0 y1, xs = [y0, y1] := by
    match xs, hln with
    | [y0, y1], _ => exact ⟨y0, y1, rfl⟩
  have h0 := hx 0 _ rfl
  have h1 := hx 1 _ rfl
  simp [cJ, Value.cells] at h0
  simp [cL, Value.cells] at h1
  obtain ⟨a, e0, _⟩ := DataW.trod_int Try.underlying2 h0
  simp at e0
  obtain ⟨ao, l, cap, e1, hr⟩ := blocks_trod h1
  exact ⟨a, ao, l, cap, by rw [e0, e1], hr⟩
end Go.Proofs.Ytdcnkebcpaelpaa.T14
