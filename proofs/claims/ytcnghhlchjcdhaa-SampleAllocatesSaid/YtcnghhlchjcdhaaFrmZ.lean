import Derived.Test.YtcnghhlchjcdhaaFrame9
import Derived.Test.YtcnghhlchjcdhaaFactsP
import Derived.Test.YtcnghhlchjcdhaaLists
import Derived.Deep.Slices
import Derived.Lib.SmallJoins
/- Closed facts of this program that every row asks: each once. -/
namespace Go.Proofs.Ytcnghhlchjcdhaa.facts
open Go.ChangeShapes Go.WideShapes Go.ChangeAt Go.RowKit
theorem and_mk {a b : Bool} (h : a = true) (k : b = true) : (a && b) = true := by rw [h, k]; rfl
theorem laidOut : laidOutB Try.prog = true := by kernel_rfl
theorem rowed : mapsRowed Try.prog = true := by kernel_rfl
theorem stops : (Try.prog.stops == []) = true := by kernel_rfl
theorem stopKnobs : (Try.prog.stopKnobs == []) = true := by kernel_rfl
theorem plainKeys : (Rows.sampleAllocatesRow.plainKeys == Try.prog.plainKeys) = true := by kernel_rfl
theorem plainKeys_of {b : Bool} (h : b = Rows.sampleAllocatesRow.plainKeys) : (b == Try.prog.plainKeys) = true := by subst h; exact plainKeys
theorem make_of {m : Make} (h : m = Rows.sampleAllocatesRow.make) : (Try.prog.make == some m) = true := by subst h; exact make
theorem lifted_of {b : Bool} (h : b = Rows.sampleAllocatesRow.lifted) : (b == Try.prog.liftsFinal) = true := by subst h; exact lifted

/-- the parameters' types that the laws of layer 10 have -/
def kinds10 : List TypeId := [3, 23]
theorem readable10 : ∀ t ∈ kinds10, Try.prog.readableRec t = true ∧ t < Try.prog.types.size := by
  have h : (kinds10.all fun t => Try.prog.readableRec t && decide (t < Try.prog.types.size)) = true := by kernel_rfl
  intro t ht
  have := List.all_eq_true.1 h t ht
  simpa using this
theorem readable_of10 {ts : Array TypeId} (h : (ts.toList.all fun t => kinds10.contains t) = true) : ∀ t ∈ ts.toList, Try.prog.readableRec t = true ∧ t < Try.prog.types.size := fun t ht =>
  readable10 t (by have := List.all_eq_true.1 h t ht; simpa using this)
/-- the parameters' types that the allocations have -/
def kinds10q : List TypeId := [3, 23, 22]
theorem readable10q : ∀ t ∈ kinds10q, Try.prog.readableRec t = true ∧ t < Try.prog.types.size := by
  have h : (kinds10q.all fun t => Try.prog.readableRec t && decide (t < Try.prog.types.size)) = true := by kernel_rfl
  intro t ht
  have := List.all_eq_true.1 h t ht
  simpa using this
theorem readable_of10q {ts : Array TypeId} (h : (ts.toList.all fun t => kinds10q.contains t) = true) : ∀ t ∈ ts.toList, Try.prog.readableRec t = true ∧ t < Try.prog.types.size := fun t ht =>
  readable10q t (by have := List.all_eq_true.1 h t ht; simpa using this)
end Go.Proofs.Ytcnghhlchjcdhaa.facts
/- A parameter of type []Ratio: a slice that reads some numbers. -/
namespace Go.Proofs.Ytcnghhlchjcdhaa
open Go.ChangeShapes Go.WideShapes Go.ChangeAt Go.RowKit

theorem cellsU32q : Try.prog.cellsOf 71 = 1 := by kernel_rfl
set_option maxRecDepth 100000 in
/-- a slice of limbs in a field -/
theorem natq_trod {H : Type} {enc : TypeId × Value → H} {W : World} {fuel : Nat} {v : Value} {y : DataW H × List MemPlace}
    (hf : DataW.trod enc Try.prog W 0 (fun _ => true) true fuel 31 [v] = some y) : ∃ ao xs cap, v = .slice ao xs.length cap ∧ Rd W ao cap xs := by
  obtain ⟨a0, len, cap, e0⟩ := Joins.slice_form Try.underlying31 hf
  obtain rfl : v = .slice a0 len cap := by simpa using e0
  rcases open_ints Try.underlying31 Try.underlying71 cellsU32q hf with ⟨hcs, _⟩ | ⟨a, len', cap', zs, hcs, _, hl, hm, hz, _, hcell, hwz⟩
  · simp at hcs
    obtain ⟨rfl, rfl, rfl⟩ := hcs
    exact ⟨none, [], 0, rfl, Rd.nil W⟩
  · simp at hcs
    obtain ⟨rfl, rfl, rfl⟩ := hcs
    simp only [if_true] at hz
    obtain ⟨xs, hxs⟩ : ∃ xs, xs = (zs.take len).map Int.toNat := ⟨_, rfl⟩
    have hlen : xs.length = len := by rw [hxs, List.length_map, List.length_take]; omega
    have hlm : ∀ i, i < len → ((lm xs i : Nat) : Int) = zs.getD i 0 ∧ lm xs i < 4294967296 := fun i hi => by
      have hi2 : i < zs.length := by omega
      have hw := hwz (zs[i]) (List.getElem_mem hi2)
      have hb : 0 ≤ zs[i] ∧ zs[i] < 4294967296 := by
        have e1 : IntKind.u32.min = 0 := rfl
        have e2 : IntKind.u32.max = 4294967295 := rfl
        simp [Lit.wf] at hw
        omega
      rw [lm_get xs i (by omega)]
      simp only [hxs, List.getElem_map, List.getElem_take, List.getD, List.getElem?_eq_getElem hi2, Option.getD_some]
      omega
    refine ⟨some a, xs, cap, by rw [hlen], by omega, by unfold maxLen at hm; omega, fun i => ?_, ?_⟩
    · by_cases hi : i < len
      · exact (hlm i hi).2
      · rw [lm_ge xs i (by omega)]; omega
    · by_cases h0 : len = 0
      · exact .inl ⟨List.eq_nil_of_length_eq_zero (by omega), fun h => by cases h⟩
      · obtain ⟨b, o, sp⟩ := a
        have hc0 := hcell 0 (by omega)
        have hsp : sp = none := by
          cases sp with
          | none => rfl
          | some s => simp [Addr.add, World.cell?] at hc0; split at hc0 <;> simp at hc0
        subst hsp
        refine .inr ⟨b, o, rfl, fun i hi => ?_⟩
        have := hcell i (by omega)
        rw [Addr.add_lit] at this
        rw [this, (hlm i (by omega)).1]

set_option maxRecDepth 100000 in
theorem ratios_open10 {H : Type} {enc : TypeId × Value → H} {W : World} {base : Nat} {v : Value} {d : DataW H} {p : List MemPlace} (hval : Value.okWide Try.prog W .any base 22 v)
    (h : DataW.Trod enc Try.prog W 0 (fun _ => true) true 22 v d p) : ∃ ao rs cap, v = .slice ao rs.length cap ∧ RdR W ao cap rs ∧ ∀ r ∈ rs, ∃ xs ys, r.n = xs.length ∧ r.m = ys.length ∧ Rd W r.ao r.ca xs ∧ Rd W r.bo r.cb ys := by
  obtain ⟨a0, len, cap, rfl⟩ := okWide_slice Try.underlying22 hval
  obtain ⟨fuel, hf⟩ := h
  rcases Go.Deep.open_slice Try.underlying22 hf with ⟨hcs, _⟩ | ⟨a, len', cap', m, n, D, Pl, hcs, _, hl, hm, hmm, _, hi⟩
  · simp [Value.cells] at hcs
    obtain ⟨rfl, rfl, rfl⟩ := hcs
    exact ⟨none, [], 0, rfl, ⟨by simp, by omega, .inl ⟨rfl, fun _ => rfl⟩⟩, by simp⟩
  · simp [Value.cells] at hcs
    obtain ⟨rfl, rfl, rfl⟩ := hcs
    simp only [if_true] at hmm
    have hC : Try.prog.cellsOf 33 = 3 := by kernel_rfl
    rw [hC] at hi
    have key : ∀ i, i < len → ∃ r : RV, ∃ xs ys, r.n = xs.length ∧ r.m = ys.length ∧ Rd W r.ao r.ca xs ∧ Rd W r.bo r.cb ys ∧ W.cell? ((a.add (i * 3)).add 0) = some (.bool r.s) ∧ W.cell? ((a.add (i * 3)).add 1) = some (.slice r.ao r.n r.ca) ∧ W.cell? ((a.add (i * 3)).add 2) = some (.slice r.bo r.m r.cb) := fun i hil => by
      obtain ⟨cs', hc, ht⟩ := hi i (by omega)
      obtain ⟨_, hcl, hat⟩ := World.cells?_some hc
      have q0 := hat 0 (by omega)
      have q1 := hat 1 (by omega)
      have q2 := hat 2 (by omega)
      obtain ⟨c0, c1, c2, rfl⟩ : ∃ c0 c1 c2, cs' = [c0, c1, c2] := by
        match cs', hcl with
        | [c0, c1, c2], _ => exact ⟨c0, c1, c2, rfl⟩
      obtain ⟨y0, y1, y2, k, _, _, h0, h1, h2⟩ := Go.Deep.trod_struct3 Try.underlying33 ht
      obtain ⟨s, e0, _⟩ := DataW.trod_bool Try.underlying4 (show DataW.trod enc Try.prog W 0 (fun _ => true) true k 4 [c0] = some y0 from h0)
      obtain rfl : c0 = .bool s := by simpa using e0
      obtain ⟨ao, xs, ca, rfl, hr1⟩ := natq_trod (show DataW.trod enc Try.prog W 0 (fun _ => true) true k 31 [c1] = some y1 from h1)
      obtain ⟨bo, ys, cb, rfl, hr2⟩ := natq_trod (show DataW.trod enc Try.prog W 0 (fun _ => true) true k 31 [c2] = some y2 from h2)
      exact ⟨⟨s, ao, xs.length, ca, bo, ys.length, cb⟩, xs, ys, rfl, rfl, hr1, hr2, q0, q1, q2⟩
    obtain ⟨rs, hrs, hrk⟩ : ∃ rs : List RV, rs.length = len ∧ ∀ i, i < len → ∃ xs ys, (rs.getD i RV.nil).n = xs.length ∧ (rs.getD i RV.nil).m = ys.length ∧ Rd W (rs.getD i RV.nil).ao (rs.getD i RV.nil).ca xs ∧ Rd W (rs.getD i RV.nil).bo (rs.getD i RV.nil).cb ys ∧ W.cell? ((a.add (i * 3)).add 0) = some (.bool (rs.getD i RV.nil).s) ∧ W.cell? ((a.add (i * 3)).add 1) = some (.slice (rs.getD i RV.nil).ao (rs.getD i RV.nil).n (rs.getD i RV.nil).ca) ∧ W.cell? ((a.add (i * 3)).add 2) = some (.slice (rs.getD i RV.nil).bo (rs.getD i RV.nil).m (rs.getD i RV.nil).cb) := by
      refine ⟨(List.range len).map fun i => if hi : i < len then Classical.choose (key i hi) else RV.nil, by simp, fun i hi => ?_⟩
      have e : ((List.range len).map fun i => if hi : i < len then Classical.choose (key i hi) else RV.nil).getD i RV.nil = Classical.choose (key i hi) := by simp [List.getD, hi]
      rw [e]
      exact Classical.choose_spec (key i hi)
    refine ⟨some a, rs, cap, by rw [hrs], ⟨by omega, by unfold maxLen at hm; omega, ?_⟩, fun r hr => ?_⟩
    · by_cases h0 : len = 0
      · exact .inl ⟨List.eq_nil_of_length_eq_zero (by omega), fun h => by cases h⟩
      · obtain ⟨b, o, sp⟩ := a
        obtain ⟨_, _, _, _, _, _, hc0, _, _⟩ := hrk 0 (by omega)
        have hsp : sp = none := by
          cases sp with
          | none => rfl
          | some s => simp [Addr.add, World.cell?] at hc0; split at hc0 <;> simp at hc0
        subst hsp
        refine .inr ⟨b, o, rfl, fun i hi => ?_⟩
        obtain ⟨_, _, _, _, _, _, g0, g1, g2⟩ := hrk i (by omega)
        rw [Addr.add_lit, Addr.add_lit] at g0 g1 g2
        exact ⟨g0, g1, g2⟩
    · obtain ⟨i, hi, rfl⟩ := List.mem_iff_getElem.1 hr
      obtain ⟨xs, ys, a1, a2, a3, a4, _⟩ := hrk i (by omega)
      have e : rs.getD i RV.nil = rs[i] := by simp [List.getD, hi]
      rw [e] at a1 a2 a3 a4
      exact ⟨xs, ys, a1, a2, a3, a4⟩
end Go.Proofs.Ytcnghhlchjcdhaa
/- A parameter of type []int64. -/
namespace Go.Proofs.Ytcnghhlchjcdhaa.P9
open Go.ChangeShapes Go.WideShapes Go.ChangeAt Go.RowKit C6

theorem cellsI64z : Try.prog.cellsOf 2 = 1 := by kernel_rfl
end Go.Proofs.Ytcnghhlchjcdhaa.P9
/- A parameter of type Ratio: a struct of a bool and two slices. -/
namespace Go.Proofs.Ytcnghhlchjcdhaa
open Go.ChangeShapes Go.WideShapes Go.ChangeAt Go.RowKit

set_option maxRecDepth 100000 in
theorem ratio_open10 {H : Type} {enc : TypeId × Value → H} {W : World} {base : Nat} {v : Value} {d : DataW H} {p : List MemPlace} (hval : Value.okWide Try.prog W .any base 33 v)
    (h : DataW.Trod enc Try.prog W 0 (fun _ => true) true 33 v d p) : ∃ s ao xs ca bo ys cb, v = .agg #[.bool s, .slice ao xs.length ca, .slice bo ys.length cb] ∧ Rd W ao ca xs ∧ Rd W bo cb ys := by
  obtain ⟨v0, v1, v2, y0, y1, y2, n, rfl, rfl, rfl, h0, h1, h2⟩ := Joins.open_agg3 Try.underlying33 (by kernel_rfl) (by kernel_rfl) hval h
  obtain ⟨s, e0, _⟩ := DataW.trod_bool Try.underlying4 h0
  obtain rfl : v0 = .bool s := by simpa using e0
  obtain ⟨ao, xs, ca, rfl, hr1⟩ := natq_trod h1
  obtain ⟨bo, ys, cb, rfl, hr2⟩ := natq_trod h2
  exact ⟨s, ao, xs, ca, bo, ys, cb, rfl, hr1, hr2⟩
end Go.Proofs.Ytcnghhlchjcdhaa
