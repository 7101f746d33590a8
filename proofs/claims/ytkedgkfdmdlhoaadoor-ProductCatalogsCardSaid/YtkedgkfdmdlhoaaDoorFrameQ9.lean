import Derived.Test.YtkedgkfdmdlhoaaDoorFrameP9
import Derived.Test.YtkedgkfdmdlhoaaDoorPrdRi
/- A product as a parameter, its numbers' ranges besides. -/
namespace Go.Proofs.YtkedgkfdmdlhoaaDoor.P9
open Go.ChangeShapes Go.WideShapes Go.ChangeAt Go.RowKit Go.Sort C6

set_option maxRecDepth 100000 in
theorem prod_open9q {H : Type} {enc : TypeId × Value → H} {W : World} {base : Nat} {v : Value} {d : DataW H} {p : List MemPlace} (hval : Value.okWide Tryd.prog W .any base 26 v)
    (h : DataW.Trod enc Tryd.prog W 0 (fun _ => true) true 26 v d p) : ∃ (q : Pd) (ao : Option Addr) (l : List Atr) (cap : Nat), v = .agg #[.string q.id, .string q.co, .string q.br, .int .i64 q.d, .int .i64 q.c, .int .i64 q.a, .slice ao l.length cap] ∧ RdA W ao cap l ∧ SL l ∧ QB q.d q.c q.a := by
  obtain ⟨cs, rfl, hsz⟩ := okWide_struct Tryd.underlying26 hval
  have hC : Tryd.prog.cellsOf 26 = 7 := by kernel_rfl
  rw [hC] at hsz
  obtain ⟨c0, c1, c2, c3, c4, c5, c6, rfl⟩ : ∃ c0 c1 c2 c3 c4 c5 c6, cs = #[c0, c1, c2, c3, c4, c5, c6] := by
    obtain ⟨l⟩ := cs
    match l, hsz with
    | [c0, c1, c2, c3, c4, c5, c6], _ => exact ⟨c0, c1, c2, c3, c4, c5, c6, rfl⟩
  obtain ⟨fuel, hf⟩ := h
  obtain ⟨xs, n, _, _, _, hln, hx⟩ := DataW.trod_struct Tryd.underlying26 hf
  have cS : Tryd.prog.cellsOf 9 = 1 := by kernel_rfl
  have cQ : Tryd.prog.cellsOf 23 = 3 := by kernel_rfl
  have cL : Tryd.prog.cellsOf 24 = 1 := by kernel_rfl
  obtain ⟨y0, y1, y2, y3, y4, rfl⟩ : ∃ y0 y1 y2 y3 y4, xs = [y0, y1, y2, y3, y4] := by
    match xs, hln with
    | [y0, y1, y2, y3, y4], _ => exact ⟨y0, y1, y2, y3, y4, rfl⟩
  have h0 := hx 0 _ rfl
  have h1 := hx 1 _ rfl
  have h2 := hx 2 _ rfl
  have h3 := hx 3 _ rfl
  have h4 := hx 4 _ rfl
  simp [cS, Value.cells] at h0 h1 h2
  simp [cQ, Value.cells] at h3
  simp [cL, Value.cells] at h4
  obtain ⟨s0, e0, _, z0⟩ := DataW.trod_string Tryd.underlying9 h0
  obtain ⟨s1, e1, _, z1⟩ := DataW.trod_string Tryd.underlying9 h1
  obtain ⟨s2, e2', _, z2⟩ := DataW.trod_string Tryd.underlying9 h2
  simp at e0 e1 e2'
  obtain ⟨a0, a1, a2, k, _, _, i0, i1, i2⟩ := Go.Deep.trod_struct3 Tryd.underlying23 h3
  have cI : Tryd.prog.cellsOf 3 = 1 := by kernel_rfl
  have cJ : Tryd.prog.cellsOf 2 = 1 := by kernel_rfl
  simp [cI, cJ] at i0 i1 i2
  obtain ⟨d, e3, _, g3⟩ := DataW.trod_int Tryd.underlying3 i0
  obtain ⟨c, e4, _, g4⟩ := DataW.trod_int Tryd.underlying3 i1
  obtain ⟨a, e5, _, g5⟩ := DataW.trod_int Tryd.underlying2 i2
  simp at e3 e4 e5
  obtain ⟨ao, l, cap, e6, hr, hs⟩ := attrs_trod h4
  have r3 := i64_bd g3
  have r4 := i64_bd g4
  have r5 := i64_bd g5
  refine ⟨⟨s0, s1, s2, d, c, a⟩, ao, l, cap, ?_, hr, hs, ⟨r3.1, r3.2, r4.1, r4.2, r5.1, r5.2⟩⟩
  rw [e0, e1, e2', e3, e4, e5, e6]
end Go.Proofs.YtkedgkfdmdlhoaaDoor.P9
