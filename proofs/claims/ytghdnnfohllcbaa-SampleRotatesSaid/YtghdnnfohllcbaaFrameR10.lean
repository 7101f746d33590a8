import Derived.Test.YtghdnnfohllcbaaFrame9
import Derived.Lib.SmallJoins
/- A parameter of type api.Rotation: four integers. -/
namespace Go.Proofs.Ytghdnnfohllcbaa.P9
open Go.ChangeShapes Go.WideShapes Go.ChangeAt Go.RowKit C6

set_option maxRecDepth 100000 in
theorem rot_open10 {H : Type} {enc : TypeId × Value → H} {W : World} {base : Nat} {v : Value} {d : DataW H} {p : List MemPlace} (hval : Value.okWide Try.prog W .any base 62 v)
    (h : DataW.Trod enc Try.prog W 0 (fun _ => true) true 62 v d p) : ∃ N T S F : Int, v = .agg #[.int .i64 N, .int .i64 T, .int .i64 S, .int .i64 F] := by
  obtain ⟨cs, rfl, hsz⟩ := okWide_struct Try.underlying62 hval
  have hC : Try.prog.cellsOf 62 = 4 := by kernel_rfl
  rw [hC] at hsz
  obtain ⟨c0, c1, c2, c3, rfl⟩ : ∃ c0 c1 c2 c3, cs = #[c0, c1, c2, c3] := by
    obtain ⟨l⟩ := cs
    match l, hsz with
    | [c0, c1, c2, c3], _ => exact ⟨c0, c1, c2, c3, rfl⟩
  obtain ⟨fuel, hf⟩ := h
  obtain ⟨xs, n, _, _, _, hln, hx⟩ := DataW.trod_struct Try.underlying62 hf
  have cI : Try.prog.cellsOf 3 = 1 := by kernel_rfl
  obtain ⟨y0, y1, y2, y3, rfl⟩ : ∃ y0 y1 y2 y3, xs = [y0, y1, y2, y3] := by
    match xs, hln with
    | [y0, y1, y2, y3], _ => exact ⟨y0, y1, y2, y3, rfl⟩
  have h0 := hx 0 _ rfl
  have h1 := hx 1 _ rfl
  have h2 := hx 2 _ rfl
  have h3 := hx 3 _ rfl
  simp [cI, Value.cells] at h0 h1 h2 h3
  obtain ⟨a, e0, _⟩ := DataW.trod_int Try.underlying3 h0
  obtain ⟨b, e1, _⟩ := DataW.trod_int Try.underlying3 h1
  obtain ⟨c, e2, _⟩ := DataW.trod_int Try.underlying3 h2
  obtain ⟨d, e3, _⟩ := DataW.trod_int Try.underlying3 h3
  simp at e0 e1 e2 e3
  exact ⟨a, b, c, d, by rw [e0, e1, e2, e3]⟩
end Go.Proofs.Ytghdnnfohllcbaa.P9
