import Derived.Test.YtkedgkfdmdlhoaaDoorFrame9
import Derived.Test.YtkedgkfdmdlhoaaDoorPrd2
import Derived.Deep.SlicePairs
/- A parameter of type api.Product: three strings, three integers, a slice that reads attributes. -/
namespace Go.Proofs.YtkedgkfdmdlhoaaDoor.P9
open Go.ChangeShapes Go.WideShapes Go.ChangeAt Go.RowKit C6

/-- a string that came in is no longer than Go allows -/
def SL (l : List Atr) : Prop := ∀ y ∈ l, y.1.size ≤ 9223372036854775807 ∧ y.2.size ≤ 9223372036854775807
set_option maxRecDepth 100000 in
theorem attrs_trod {H : Type} {enc : TypeId × Value → H} {W : World} {v : Value} {x : DataW H × List MemPlace} {fuel : Nat}
    (h : DataW.trod enc Tryd.prog W 0 (fun _ => true) true fuel 24 [v] = some x) : ∃ ao l cap, v = .slice ao l.length cap ∧ RdA W ao cap l ∧ SL l := by
  rcases Go.Deep.open_slice_pairs Tryd.underlying24 Tryd.underlying52 (by kernel_rfl) rfl rfl (by kernel_rfl) (by kernel_rfl) h with ⟨hcs, _⟩ | ⟨a, len, cap, m, n, V0, V1, D0, D1, P0, P1, hcs, _, hl, hm, hmm, _, hi⟩
  · simp at hcs
    subst hcs
    exact ⟨none, [], 0, rfl, RdA.nil _, fun y hy => by simp at hy⟩
  · simp at hcs
    subst hcs
    simp only [if_true] at hmm
    have key : ∀ i, i < len → ∃ y : Atr, W.cell? (a.add (i * 2)) = some (.string y.1) ∧ W.cell? (a.add (i * 2 + 1)) = some (.string y.2) ∧ y.1.size ≤ 9223372036854775807 ∧ y.2.size ≤ 9223372036854775807 := fun i hil => by
      obtain ⟨q0, q1, t0, t1⟩ := hi i (by omega)
      obtain ⟨s0, e0, _, z0⟩ := DataW.trod_string Tryd.underlying9 t0
      obtain ⟨s1, e1, _, z1⟩ := DataW.trod_string Tryd.underlying9 t1
      simp at e0 e1
      rw [e0] at q0
      rw [e1] at q1
      unfold maxLen at z0 z1
      exact ⟨(s0, s1), q0, q1, by show s0.size ≤ _; omega, by show s1.size ≤ _; omega⟩
    obtain ⟨f, hf⟩ := Go.Deep.choose_lt (α := Atr) key
    have hln : ((List.range len).map f).length = len := by simp
    have hget : ∀ i, i < len → ((List.range len).map f).getD i e2 = f i := fun i hi => by simp [List.getD, hi]
    refine ⟨some a, (List.range len).map f, cap, by rw [hln], ⟨by omega, by unfold maxLen at hm; omega, ?_⟩, fun y hy => ?_⟩
    · by_cases h0 : len = 0
      · exact .inl ⟨List.eq_nil_of_length_eq_zero (by omega), fun h => by cases h⟩
      · obtain ⟨b, o, sp⟩ := a
        obtain ⟨hc0, _⟩ := hf 0 (by omega)
        have hsp : sp = none := by
          cases sp with
          | none => rfl
          | some s => simp [Addr.add, World.cell?] at hc0; split at hc0 <;> simp at hc0
        subst hsp
        refine .inr ⟨b, o, rfl, fun i hi => ?_⟩
        obtain ⟨g0, g1, _⟩ := hf i (by omega)
        rw [Addr.add_lit] at g0 g1
        rw [hget i (by omega)]
        exact ⟨g0, g1⟩
    · obtain ⟨i, hi, rfl⟩ := List.mem_map.1 hy
      exact (hf i (by simpa using hi)).2.2
/-- sizes of a product's strings that came in -/
def SP (p : Pd) : Prop := p.id.size ≤ 9223372036854775807 ∧ p.co.size ≤ 9223372036854775807 ∧ p.br.size ≤ 9223372036854775807
set_option maxRecDepth 100000 in
theorem prod_open9 {H : Type} {enc : TypeId × Value → H} {W : World} {base : Nat} {v : Value} {d : DataW H} {p : List MemPlace} (hval : Value.okWide Tryd.prog W .any base 26 v)
    (h : DataW.Trod enc Tryd.prog W 0 (fun _ => true) true 26 v d p) : ∃ (q : Pd) (ao : Option Addr) (l : List Atr) (cap : Nat), v = .agg #[.string q.id, .string q.co, .string q.br, .int .i64 q.d, .int .i64 q.c, .int .i64 q.a, .slice ao l.length cap] ∧ RdA W ao cap l ∧ SL l ∧ SP q := by
  obtain ⟨cs, rfl, hsz⟩ := okWide_struct Tryd.underlying26 hval
  have hC : Tryd.prog.cellsOf 26 = 7 := by kernel_rfl
  rw [hC] at hsz
  obtain ⟨c0, c1, c2, c3, c4, c5, c6, rfl⟩ : ∃ c0 c1 c2 c3 c4 c5 c6, cs = #[c0, c1, c2, c3, c4, c5, c6] := by
    obtain ⟨l⟩ := cs
    match l, hsz with
    | [c0, c1, c2, c3, c4, c5, c6], _ => exact ⟨c0, c1, c2, c3, c4, c5, c6, rfl⟩
  obtain ⟨fuel, hf⟩ := h
  obtain ⟨xs, n, _, _, _, hln, hx⟩ := DataW.trod_struct Tryd.underlying26 hf
  have cS : Tryd.prog.cellsOf 9 = 1 := by kernel_rfl
  have cQ : Tryd.prog.cellsOf 23 = 3 := by kernel_rfl
  have cL : Tryd.prog.cellsOf 24 = 1 := by kernel_rfl
  obtain ⟨y0, y1, y2, y3, y4, rfl⟩ : ∃ y0 y1 y2 y3 y4, xs = [y0, y1, y2, y3, y4] := by
    match xs, hln with
    | [y0, y1, y2, y3, y4], _ => exact ⟨y0, y1, y2, y3, y4, rfl⟩
  have h0 := hx 0 _ rfl
  have h1 := hx 1 _ rfl
  have h2 := hx 2 _ rfl
  have h3 := hx 3 _ rfl
  have h4 := hx 4 _ rfl
  simp [cS, Value.cells] at h0 h1 h2
  simp [cQ, Value.cells] at h3
  simp [cL, Value.cells] at h4
  obtain ⟨s0, e0, _, z0⟩ := DataW.trod_string Tryd.underlying9 h0
  obtain ⟨s1, e1, _, z1⟩ := DataW.trod_string Tryd.underlying9 h1
  obtain ⟨s2, e2', _, z2⟩ := DataW.trod_string Tryd.underlying9 h2
  simp at e0 e1 e2'
  obtain ⟨a0, a1, a2, k, _, _, i0, i1, i2⟩ := Go.Deep.trod_struct3 Tryd.underlying23 h3
  have cI : Tryd.prog.cellsOf 3 = 1 := by kernel_rfl
  have cJ : Tryd.prog.cellsOf 2 = 1 := by kernel_rfl
  simp [cI, cJ] at i0 i1 i2
  obtain ⟨d, e3, _⟩ := DataW.trod_int Tryd.underlying3 i0
  obtain ⟨c, e4, _⟩ := DataW.trod_int Tryd.underlying3 i1
  obtain ⟨a, e5, _⟩ := DataW.trod_int Tryd.underlying2 i2
  simp at e3 e4 e5
  obtain ⟨ao, l, cap, e6, hr, hs⟩ := attrs_trod h4
  unfold maxLen at z0 z1 z2
  refine ⟨⟨s0, s1, s2, d, c, a⟩, ao, l, cap, ?_, hr, hs, by show s0.size ≤ _; omega, by show s1.size ≤ _; omega, by show s2.size ≤ _; omega⟩
  rw [e0, e1, e2', e3, e4, e5, e6]
end Go.Proofs.YtkedgkfdmdlhoaaDoor.P9
