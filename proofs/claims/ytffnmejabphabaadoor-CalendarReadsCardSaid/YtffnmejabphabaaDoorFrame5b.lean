import Derived.Test.YtffnmejabphabaaDoorFrame5
import Derived.Test.YtffnmejabphabaaDoorCtx3
import Derived.LaidLaws
/- What the proofs of the calendar's laws on texts share besides: the variable strconv.ErrSyntax. -/
namespace Go.Proofs.YtffnmejabphabaaDoor
open Go.ChangeShapes Go.WideShapes Go.ChangeAt Go.RowKit

/-- what the rows' lists give: the table of powers of ten, and an error in strconv.ErrSyntax -/
theorem tab_of5 {W : World} (h : laidMetH Tryd.prog [("math/bits.deBruijn32tab", Rows.laid_math_bits_deBruijn32tab), ("math/bits.deBruijn64tab", Rows.laid_math_bits_deBruijn64tab), ("internal/strconv.uint64pow10", Rows.laid_internal_strconv_uint64pow10), ("strconv.ErrRange", Rows.laid_strconv_ErrRange), ("strconv.ErrSyntax", Rows.laid_strconv_ErrSyntax)] W) : Tab W ∧ ErrV W := by
  have h' : laidMet Tryd.prog [("math/bits.deBruijn32tab", Rows.laid_math_bits_deBruijn32tab), ("math/bits.deBruijn64tab", Rows.laid_math_bits_deBruijn64tab), ("internal/strconv.uint64pow10", Rows.laid_internal_strconv_uint64pow10), ("strconv.ErrRange", Rows.laid_strconv_ErrRange), ("strconv.ErrSyntax", Rows.laid_strconv_ErrSyntax)] W := h
  obtain ⟨ps, hl, _⟩ := h'
  obtain ⟨_, _, _, _, _, _, _, _, _, _, hl, _⟩ := hl
  obtain ⟨_, _, _, _, _, _, _, _, _, _, hl, _⟩ := hl
  obtain ⟨g, t, cs, fuel, p, q, hg, hty, hvar, hd, hl, _⟩ := hl
  obtain ⟨_, _, _, _, _, _, _, _, _, _, hl, _⟩ := hl
  obtain ⟨g2, t2, cs2, fuel2, p2, q2, hg2, hty2, hvar2, hd2, _, _⟩ := hl
  constructor
  · have hg0 : Tryd.prog.globalNamed "internal/strconv.uint64pow10" = some 0 := by kernel_rfl
    have ht0 : (Tryd.prog.globals[0]?).map (·.type) = some 81 := by kernel_rfl
    have hc0 : Tryd.prog.cellsOf 54 = 1 := by kernel_rfl
    have hc1 : Tryd.prog.cellsOf 81 = 20 := by kernel_rfl
    obtain rfl := Option.some.inj (hg0.symm.trans hg)
    obtain rfl := Option.some.inj (ht0.symm.trans hty)
    have e : (Rows.laid_internal_strconv_uint64pow10 : DataW Unit) = Lib.tabData .u64 Lib.pow10Tab := by rfl
    rw [e] at hd
    unfold Tab Lib.TabIs
    rw [hvar, ← Lib.cells_of_tab Tryd.underlying81 Tryd.underlying54 hc0 hc1 hd]
  · have hg0 : Tryd.prog.globalNamed "strconv.ErrSyntax" = some 1 := by kernel_rfl
    have ht0 : (Tryd.prog.globals[1]?).map (·.type) = some 64 := by kernel_rfl
    obtain rfl := Option.some.inj (hg0.symm.trans hg2)
    obtain rfl := Option.some.inj (ht0.symm.trans hty2)
    obtain ⟨f, u, v, hcs, _, _⟩ := iface_of_trod Tryd.underlying64 hd2
    have hc := World.var?_cell hg0 hvar2 0
    refine ⟨.iface u v, ?_, .inr ⟨u, v, rfl⟩⟩
    first
      | (rw [hc]; have := congrArg (fun l : List Value => l[0]?) hcs; simpa using this)
      | (simpa [hcs] using hc)

/-- a world for the witness: the tables and the two errors hold what their initialisers lay -/
noncomputable def laidWorld5 (os : Os) : World :=
  let h := (((World.holding Tryd.prog os ⟨#[], #[], []⟩).heap.modify 0 (relay (tabWords1.map (Value.int .u64)).toArray)).modify 3 (relay (tabWords2.map (Value.int .u8)).toArray)).modify 4 (relay (tabWords3.map (Value.int .u8)).toArray)
  { World.holding Tryd.prog os ⟨#[], #[], []⟩ with heap := ((h.modify 1 (relay #[.iface 95 (.pointer (some ⟨h.size, 0, none⟩))])).modify 2 (relay #[.iface 95 (.pointer (some ⟨h.size + 1, 0, none⟩))])) ++
      #[.cells #[.string ⟨#[105, 110, 118, 97, 108, 105, 100, 32, 115, 121, 110, 116, 97, 120]⟩] 97 (0, 0), .cells #[.string ⟨#[118, 97, 108, 117, 101, 32, 111, 117, 116, 32, 111, 102, 32, 114, 97, 110, 103, 101]⟩] 97 (0, 0)] }
theorem laid_met5 (os : Os) : laidMet Tryd.prog Rows.calendarTextsRow.laid ((laidWorld5 os).forCall (fun _ _ => 0) ⟨#[], #[.agg #[.int .i64 0, .int .i64 0, .int .i64 0], .int .i64 0], []⟩).memory :=
  laidMet_of_run' 8 (by kernel_rfl) (by kernel_rfl)
end Go.Proofs.YtffnmejabphabaaDoor
