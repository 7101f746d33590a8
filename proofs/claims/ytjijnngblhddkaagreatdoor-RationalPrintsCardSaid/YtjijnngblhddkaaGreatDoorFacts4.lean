import Derived.Test.YtjijnngblhddkaaGreatDoorFacts3
import Derived.Test.YtjijnngblhddkaaGreatDoorPars
import Derived.LaidLaws
import Derived.Test.YtjijnngblhddkaaGreatDoorFacts
/- What the proofs of the laws on texts of rational numbers share besides: the variable strconv.ErrSyntax. -/
namespace Go.Proofs.YtjijnngblhddkaaGreatDoor
open Go.ChangeShapes Go.WideShapes Go.ChangeAt Go.RowKit

/-- what the rows' lists give: the table of powers of ten, and an error in strconv.ErrSyntax -/
theorem tab_of5 {W : World} (h : laidMetH Tryz.prog [("math/bits.deBruijn32tab", Rows.laid_math_bits_deBruijn32tab), ("math/bits.deBruijn64tab", Rows.laid_math_bits_deBruijn64tab), ("internal/strconv.uint64pow10", Rows.laid_internal_strconv_uint64pow10), ("strconv.ErrRange", Rows.laid_strconv_ErrRange), ("strconv.ErrSyntax", Rows.laid_strconv_ErrSyntax)] W) : Tab W ∧ ErrV W := by
  have h' : laidMet Tryz.prog [("math/bits.deBruijn32tab", Rows.laid_math_bits_deBruijn32tab), ("math/bits.deBruijn64tab", Rows.laid_math_bits_deBruijn64tab), ("internal/strconv.uint64pow10", Rows.laid_internal_strconv_uint64pow10), ("strconv.ErrRange", Rows.laid_strconv_ErrRange), ("strconv.ErrSyntax", Rows.laid_strconv_ErrSyntax)] W := h
  obtain ⟨ps, hl, _⟩ := h'
  obtain ⟨_, _, _, _, _, _, _, _, _, _, hl, _⟩ := hl
  obtain ⟨_, _, _, _, _, _, _, _, _, _, hl, _⟩ := hl
  obtain ⟨g, t, cs, fuel, p, q, hg, hty, hvar, hd, hl, _⟩ := hl
  obtain ⟨_, _, _, _, _, _, _, _, _, _, hl, _⟩ := hl
  obtain ⟨g2, t2, cs2, fuel2, p2, q2, hg2, hty2, hvar2, hd2, _, _⟩ := hl
  constructor
  · have hg0 : Tryz.prog.globalNamed "internal/strconv.uint64pow10" = some 1 := by kernel_rfl
    have ht0 : (Tryz.prog.globals[1]?).map (·.type) = some 143 := by kernel_rfl
    have hc0 : Tryz.prog.cellsOf 40 = 1 := by kernel_rfl
    have hc1 : Tryz.prog.cellsOf 143 = 20 := by kernel_rfl
    obtain rfl := Option.some.inj (hg0.symm.trans hg)
    obtain rfl := Option.some.inj (ht0.symm.trans hty)
    have e : (Rows.laid_internal_strconv_uint64pow10 : DataW Unit) = Lib.tabData .u64 Lib.pow10Tab := by rfl
    rw [e] at hd
    unfold Tab Lib.TabIs
    rw [hvar, ← Lib.cells_of_tab Tryz.underlying143 Tryz.underlying40 hc0 hc1 hd]
  · have hg0 : Tryz.prog.globalNamed "strconv.ErrSyntax" = some 2 := by kernel_rfl
    have ht0 : (Tryz.prog.globals[2]?).map (·.type) = some 90 := by kernel_rfl
    obtain rfl := Option.some.inj (hg0.symm.trans hg2)
    obtain rfl := Option.some.inj (ht0.symm.trans hty2)
    obtain ⟨f, u, v, hcs, _, _⟩ := iface_of_trod Tryz.underlying90 hd2
    have hc := World.var?_cell hg0 hvar2 0
    refine ⟨.iface u v, ?_, .inr ⟨u, v, rfl⟩⟩
    first
      | (rw [hc]; have := congrArg (fun l : List Value => l[0]?) hcs; simpa using this)
      | (simpa [hcs] using hc)

/-- a world for the witness: the tables and the two errors hold what their initialisers lay -/
noncomputable def laidWorld5 (os : Os) : World :=
  let h := (((World.holding Tryz.prog os ⟨#[], #[], []⟩).heap.modify 1 (relay (tabWords1.map (Value.int .u64)).toArray)).modify 4 (relay (tabWords2.map (Value.int .u8)).toArray)).modify 5 (relay (tabWords3.map (Value.int .u8)).toArray)
  { World.holding Tryz.prog os ⟨#[], #[], []⟩ with heap := ((h.modify 2 (relay #[.iface 151 (.pointer (some ⟨h.size, 0, none⟩))])).modify 3 (relay #[.iface 151 (.pointer (some ⟨h.size + 1, 0, none⟩))])) ++
      #[.cells #[.string ⟨#[105, 110, 118, 97, 108, 105, 100, 32, 115, 121, 110, 116, 97, 120]⟩] 153 (0, 0), .cells #[.string ⟨#[118, 97, 108, 117, 101, 32, 111, 117, 116, 32, 111, 102, 32, 114, 97, 110, 103, 101]⟩] 153 (0, 0)] }
end Go.Proofs.YtjijnngblhddkaaGreatDoor
/- Closed facts on the parameters of layer 2's laws on texts. -/
namespace Go.Proofs.YtjijnngblhddkaaGreatDoor.facts
open Go.ChangeShapes Go.WideShapes Go.ChangeAt Go.RowKit
def kinds2b : List TypeId := [9, 25, 3, 2, 4, 5]
theorem readable2b : ∀ t ∈ kinds2b, Tryz.prog.readableRec t = true ∧ t < Tryz.prog.types.size := by
  have h : (kinds2b.all fun t => Tryz.prog.readableRec t && decide (t < Tryz.prog.types.size)) = true := by kernel_rfl
  intro t ht
  have := List.all_eq_true.1 h t ht
  simpa using this
theorem standIn2b : ∀ t ∈ kinds2b, Tryz.prog.wantsStandIn t = false := by
  have h : (kinds2b.all fun t => !Tryz.prog.wantsStandIn t) = true := by kernel_rfl
  intro t ht
  have := List.all_eq_true.1 h t ht
  simpa using this
theorem readable_of2b {ts : Array TypeId} (h : (ts.toList.all fun t => kinds2b.contains t) = true) : ∀ t ∈ ts.toList, Tryz.prog.readableRec t = true ∧ t < Tryz.prog.types.size := fun t ht =>
  readable2b t (by have := List.all_eq_true.1 h t ht; simpa using this)
theorem standIn_of2b {ts : Array TypeId} (h : (ts.toList.all fun t => kinds2b.contains t) = true) : ∀ (j : Nat) t, ts[j]? = some t → Tryz.prog.wantsStandIn t = false := fun j t ht =>
  standIn2b t (by have := List.all_eq_true.1 h t (by simpa using Array.mem_of_getElem? ht); simpa using this)
end Go.Proofs.YtjijnngblhddkaaGreatDoor.facts
