import Derived.Test.YtobiepkhommeaaaGreatDoorFacts3
import Derived.Test.YtobiepkhommeaaaGreatDoorPars
import Derived.LaidLaws
import Derived.Test.YtobiepkhommeaaaGreatDoorQtysB
import Derived.Lib.SmallJoins
import Derived.Test.YtobiepkhommeaaaGreatDoorFactsA
/- What the proofs of the laws on texts of rational numbers share besides: the variable strconv.ErrSyntax. -/
namespace Go.Proofs.YtobiepkhommeaaaGreatDoor
open Go.ChangeShapes Go.WideShapes Go.ChangeAt Go.RowKit

/-- what the rows' lists give: the table of powers of ten, and an error in strconv.ErrSyntax -/
theorem tab_of5 {W : World} (h : laidMetH Tryz.prog [("math/bits.deBruijn32tab", Rows.laid_math_bits_deBruijn32tab), ("math/bits.deBruijn64tab", Rows.laid_math_bits_deBruijn64tab), ("internal/strconv.uint64pow10", Rows.laid_internal_strconv_uint64pow10), ("strconv.ErrRange", Rows.laid_strconv_ErrRange), ("strconv.ErrSyntax", Rows.laid_strconv_ErrSyntax)] W) : Tab W ∧ ErrV W := by
  have h' : laidMet Tryz.prog [("math/bits.deBruijn32tab", Rows.laid_math_bits_deBruijn32tab), ("math/bits.deBruijn64tab", Rows.laid_math_bits_deBruijn64tab), ("internal/strconv.uint64pow10", Rows.laid_internal_strconv_uint64pow10), ("strconv.ErrRange", Rows.laid_strconv_ErrRange), ("strconv.ErrSyntax", Rows.laid_strconv_ErrSyntax)] W := h
  obtain ⟨ps, hl, _⟩ := h'
  obtain ⟨_, _, _, _, _, _, _, _, _, _, hl, _⟩ := hl
  obtain ⟨_, _, _, _, _, _, _, _, _, _, hl, _⟩ := hl
  obtain ⟨g, t, cs, fuel, p, q, hg, hty, hvar, hd, hl, _⟩ := hl
  obtain ⟨_, _, _, _, _, _, _, _, _, _, hl, _⟩ := hl
  obtain ⟨g2, t2, cs2, fuel2, p2, q2, hg2, hty2, hvar2, hd2, _, _⟩ := hl
  constructor
  · have hg0 : Tryz.prog.globalNamed "internal/strconv.uint64pow10" = some 1 := by kernel_rfl
    have ht0 : (Tryz.prog.globals[1]?).map (·.type) = some 196 := by kernel_rfl
    have hc0 : Tryz.prog.cellsOf 97 = 1 := by kernel_rfl
    have hc1 : Tryz.prog.cellsOf 196 = 20 := by kernel_rfl
    obtain rfl := Option.some.inj (hg0.symm.trans hg)
    obtain rfl := Option.some.inj (ht0.symm.trans hty)
    have e : (Rows.laid_internal_strconv_uint64pow10 : DataW Unit) = Lib.tabData .u64 Lib.pow10Tab := by rfl
    rw [e] at hd
    unfold Tab Lib.TabIs
    rw [hvar, ← Lib.cells_of_tab Tryz.underlying196 Tryz.underlying97 hc0 hc1 hd]
  · have hg0 : Tryz.prog.globalNamed "strconv.ErrSyntax" = some 6 := by kernel_rfl
    have ht0 : (Tryz.prog.globals[6]?).map (·.type) = some 143 := by kernel_rfl
    obtain rfl := Option.some.inj (hg0.symm.trans hg2)
    obtain rfl := Option.some.inj (ht0.symm.trans hty2)
    obtain ⟨f, u, v, hcs, _, _⟩ := iface_of_trod Tryz.underlying143 hd2
    have hc := World.var?_cell hg0 hvar2 0
    refine ⟨.iface u v, ?_, .inr ⟨u, v, rfl⟩⟩
    first
      | (rw [hc]; have := congrArg (fun l : List Value => l[0]?) hcs; simpa using this)
      | (simpa [hcs] using hc)

/-- a world for the witness: the tables and the two errors hold what their initialisers lay -/
noncomputable def laidWorld5 (os : Os) : World :=
  let h := (((World.holding Tryz.prog os ⟨#[], #[], []⟩).heap.modify 1 (relay (tabWords1.map (Value.int .u64)).toArray)).modify 4 (relay (tabWords2.map (Value.int .u8)).toArray)).modify 5 (relay (tabWords3.map (Value.int .u8)).toArray)
  { World.holding Tryz.prog os ⟨#[], #[], []⟩ with heap := ((h.modify 6 (relay #[.iface 216 (.pointer (some ⟨h.size, 0, none⟩))])).modify 7 (relay #[.iface 216 (.pointer (some ⟨h.size + 1, 0, none⟩))])) ++
      #[.cells #[.string ⟨#[105, 110, 118, 97, 108, 105, 100, 32, 115, 121, 110, 116, 97, 120]⟩] 218 (0, 0), .cells #[.string ⟨#[118, 97, 108, 117, 101, 32, 111, 117, 116, 32, 111, 102, 32, 114, 97, 110, 103, 101]⟩] 218 (0, 0)] }
end Go.Proofs.YtobiepkhommeaaaGreatDoor
/- What the proofs of the laws of layer 8 share besides: a quantity as a parameter, and what they need of the world. -/
namespace Go.Proofs.YtobiepkhommeaaaGreatDoor
open Go.ChangeShapes Go.WideShapes Go.ChangeAt Go.RowKit

theorem i64_bd8 {n : Int} (h : (Lit.int .i64 n).wf = true) : -9223372036854775808 ≤ n ∧ n ≤ 9223372036854775807 := by
  have e1 : IntKind.i64.min = -9223372036854775808 := rfl
  have e2 : IntKind.i64.max = 9223372036854775807 := rfl
  simp [Lit.wf] at h
  omega
set_option maxRecDepth 100000 in
/-- a parameter of type api.Quantity: three integers -/
theorem qty_open {H : Type} {enc : TypeId × Value → H} {W : World} {base : Nat} {v : Value} {d : DataW H} {p : List MemPlace} (hval : Value.okWide Tryz.prog W .any base 39 v)
    (h : DataW.Trod enc Tryz.prog W 0 (fun _ => true) true 39 v d p) : ∃ y m x, v = .agg #[.int .i64 y, .int .i64 m, .int .i64 x] ∧ QB y m x := by
  obtain ⟨v0, v1, v2, y0, y1, y2, n, rfl, rfl, rfl, h0, h1, h2⟩ := Joins.open_agg3 Tryz.underlying39 (by kernel_rfl) (by kernel_rfl) hval h
  obtain ⟨a, e0, _, ha⟩ := DataW.trod_int Tryz.underlying3 h0
  obtain ⟨b, e1, _, hb⟩ := DataW.trod_int Tryz.underlying3 h1
  obtain ⟨c, e2, _, hc⟩ := DataW.trod_int Tryz.underlying2 h2
  obtain rfl : v0 = .int .i64 a := by simpa using e0
  obtain rfl : v1 = .int .i64 b := by simpa using e1
  obtain rfl : v2 = .int .i64 c := by simpa using e2
  have ba := i64_bd8 ha
  have bb := i64_bd8 hb
  have bc := i64_bd8 hc
  exact ⟨a, b, c, rfl, ⟨ba.1, ba.2, bb.1, bb.2, bc.1, bc.2⟩⟩
/-- what a row's list and the world's shape give -/
theorem env_of {W : World} (h : Tab W ∧ ErrV W) (hsh : W.ShapedOpen Tryz.prog) : Env W := ⟨h.1, h.2, Tryz.laysM145.s1_3 W hsh⟩
end Go.Proofs.YtobiepkhommeaaaGreatDoor
/- Closed facts on the parameters of layer 8's laws. -/
namespace Go.Proofs.YtobiepkhommeaaaGreatDoor.facts
open Go.ChangeShapes Go.WideShapes Go.ChangeAt Go.RowKit
def kinds8 : List TypeId := [9, 25, 3, 40, 39]
theorem readable8 : ∀ t ∈ kinds8, Tryz.prog.readableRec t = true ∧ t < Tryz.prog.types.size := by
  have h : (kinds8.all fun t => Tryz.prog.readableRec t && decide (t < Tryz.prog.types.size)) = true := by kernel_rfl
  intro t ht
  have := List.all_eq_true.1 h t ht
  simpa using this
theorem standIn8 : ∀ t ∈ kinds8, Tryz.prog.wantsStandIn t = false := by
  have h : (kinds8.all fun t => !Tryz.prog.wantsStandIn t) = true := by kernel_rfl
  intro t ht
  have := List.all_eq_true.1 h t ht
  simpa using this
theorem readable_of8 {ts : Array TypeId} (h : (ts.toList.all fun t => kinds8.contains t) = true) : ∀ t ∈ ts.toList, Tryz.prog.readableRec t = true ∧ t < Tryz.prog.types.size := fun t ht =>
  readable8 t (by have := List.all_eq_true.1 h t ht; simpa using this)
theorem standIn_of8 {ts : Array TypeId} (h : (ts.toList.all fun t => kinds8.contains t) = true) : ∀ (j : Nat) t, ts[j]? = some t → Tryz.prog.wantsStandIn t = false := fun j t ht =>
  standIn8 t (by have := List.all_eq_true.1 h t (by simpa using Array.mem_of_getElem? ht); simpa using this)
end Go.Proofs.YtobiepkhommeaaaGreatDoor.facts
/- Closed facts on the parameters of layer 2's laws on texts. -/
namespace Go.Proofs.YtobiepkhommeaaaGreatDoor.facts
open Go.ChangeShapes Go.WideShapes Go.ChangeAt Go.RowKit
def kinds2b : List TypeId := [9, 25, 3, 2, 4, 5]
theorem readable2b : ∀ t ∈ kinds2b, Tryz.prog.readableRec t = true ∧ t < Tryz.prog.types.size := by
  have h : (kinds2b.all fun t => Tryz.prog.readableRec t && decide (t < Tryz.prog.types.size)) = true := by kernel_rfl
  intro t ht
  have := List.all_eq_true.1 h t ht
  simpa using this
theorem standIn2b : ∀ t ∈ kinds2b, Tryz.prog.wantsStandIn t = false := by
  have h : (kinds2b.all fun t => !Tryz.prog.wantsStandIn t) = true := by kernel_rfl
  intro t ht
  have := List.all_eq_true.1 h t ht
  simpa using this
theorem readable_of2b {ts : Array TypeId} (h : (ts.toList.all fun t => kinds2b.contains t) = true) : ∀ t ∈ ts.toList, Tryz.prog.readableRec t = true ∧ t < Tryz.prog.types.size := fun t ht =>
  readable2b t (by have := List.all_eq_true.1 h t ht; simpa using this)
theorem standIn_of2b {ts : Array TypeId} (h : (ts.toList.all fun t => kinds2b.contains t) = true) : ∀ (j : Nat) t, ts[j]? = some t → Tryz.prog.wantsStandIn t = false := fun j t ht =>
  standIn2b t (by have := List.all_eq_true.1 h t (by simpa using Array.mem_of_getElem? ht); simpa using this)
end Go.Proofs.YtobiepkhommeaaaGreatDoor.facts
