import Derived.Test.YtobiepkhommeaaaGreatDoorFacts8g
import Derived.LaidLaws
/- Layer 8's laws whose rows list the tables of unicode/utf8 besides. -/
namespace Go.Proofs.YtobiepkhommeaaaGreatDoor
open Go.ChangeShapes Go.WideShapes Go.ChangeAt Go.RowKit

/-- what the rows' lists give: the table of powers of ten, and an error in strconv.ErrSyntax -/
theorem tab_of7 {W : World} (h : laidMetH Tryz.prog [("math/bits.deBruijn32tab", Rows.laid_math_bits_deBruijn32tab), ("math/bits.deBruijn64tab", Rows.laid_math_bits_deBruijn64tab), ("internal/strconv.uint64pow10", Rows.laid_internal_strconv_uint64pow10), ("unicode/utf8.acceptRanges", Rows.laid_unicode_utf8_acceptRanges), ("strconv.ErrRange", Rows.laid_strconv_ErrRange), ("strconv.ErrSyntax", Rows.laid_strconv_ErrSyntax), ("unicode/utf8.first", Rows.laid_unicode_utf8_first)] W) : Tab W ∧ ErrV W := by
  have h' : laidMet Tryz.prog [("math/bits.deBruijn32tab", Rows.laid_math_bits_deBruijn32tab), ("math/bits.deBruijn64tab", Rows.laid_math_bits_deBruijn64tab), ("internal/strconv.uint64pow10", Rows.laid_internal_strconv_uint64pow10), ("unicode/utf8.acceptRanges", Rows.laid_unicode_utf8_acceptRanges), ("strconv.ErrRange", Rows.laid_strconv_ErrRange), ("strconv.ErrSyntax", Rows.laid_strconv_ErrSyntax), ("unicode/utf8.first", Rows.laid_unicode_utf8_first)] W := h
  obtain ⟨ps, hl, _⟩ := h'
  obtain ⟨_, _, _, _, _, _, _, _, _, _, hl, _⟩ := hl
  obtain ⟨_, _, _, _, _, _, _, _, _, _, hl, _⟩ := hl
  obtain ⟨g, t, cs, fuel, p, q, hg, hty, hvar, hd, hl, _⟩ := hl
  obtain ⟨_, _, _, _, _, _, _, _, _, _, hl, _⟩ := hl
  obtain ⟨_, _, _, _, _, _, _, _, _, _, hl, _⟩ := hl
  obtain ⟨g2, t2, cs2, fuel2, p2, q2, hg2, hty2, hvar2, hd2, _, _⟩ := hl
  constructor
  · have hg0 : Tryz.prog.globalNamed "internal/strconv.uint64pow10" = some 1 := by kernel_rfl
    have ht0 : (Tryz.prog.globals[1]?).map (·.type) = some 196 := by kernel_rfl
    have hc0 : Tryz.prog.cellsOf 97 = 1 := by kernel_rfl
    have hc1 : Tryz.prog.cellsOf 196 = 20 := by kernel_rfl
    obtain rfl := Option.some.inj (hg0.symm.trans hg)
    obtain rfl := Option.some.inj (ht0.symm.trans hty)
    have e : (Rows.laid_internal_strconv_uint64pow10 : DataW Unit) = Lib.tabData .u64 Lib.pow10Tab := by rfl
    rw [e] at hd
    unfold Tab Lib.TabIs
    rw [hvar, ← Lib.cells_of_tab Tryz.underlying196 Tryz.underlying97 hc0 hc1 hd]
  · have hg0 : Tryz.prog.globalNamed "strconv.ErrSyntax" = some 6 := by kernel_rfl
    have ht0 : (Tryz.prog.globals[6]?).map (·.type) = some 143 := by kernel_rfl
    obtain rfl := Option.some.inj (hg0.symm.trans hg2)
    obtain rfl := Option.some.inj (ht0.symm.trans hty2)
    obtain ⟨f, u, v, hcs, _, _⟩ := iface_of_trod Tryz.underlying143 hd2
    have hc := World.var?_cell hg0 hvar2 0
    refine ⟨.iface u v, ?_, .inr ⟨u, v, rfl⟩⟩
    first
      | (rw [hc]; have := congrArg (fun l : List Value => l[0]?) hcs; simpa using this)
      | (simpa [hcs] using hc)

def tabWords4q : List Int := [128, 191, 160, 191, 128, 159, 144, 191, 128, 143, 0, 0, 0, 0, 0, 0, 0, 0, 0, 0, 0, 0, 0, 0, 0, 0, 0, 0, 0, 0, 0, 0]
/-- a world for the witness: the tables and the two errors hold what their initialisers lay -/
noncomputable def laidWorld7 (os : Os) : World :=
  let h := (((((World.holding Tryz.prog os ⟨#[], #[], []⟩).heap.modify 1 (relay (tabWords1.map (Value.int .u64)).toArray)).modify 4 (relay (tabWords2.map (Value.int .u8)).toArray)).modify 5 (relay (tabWords3.map (Value.int .u8)).toArray)).modify 3 (relay (tabWords4q.map (Value.int .u8)).toArray)).modify 2 (relay (Go.Pinned.utf8FirstZ.map (fun n : Nat => Value.int .u8 (n : Int))).toArray)
  { World.holding Tryz.prog os ⟨#[], #[], []⟩ with heap := ((h.modify 6 (relay #[.iface 216 (.pointer (some ⟨h.size, 0, none⟩))])).modify 7 (relay #[.iface 216 (.pointer (some ⟨h.size + 1, 0, none⟩))])) ++
      #[.cells #[.string ⟨#[105, 110, 118, 97, 108, 105, 100, 32, 115, 121, 110, 116, 97, 120]⟩] 218 (0, 0), .cells #[.string ⟨#[118, 97, 108, 117, 101, 32, 111, 117, 116, 32, 111, 102, 32, 114, 97, 110, 103, 101]⟩] 218 (0, 0)] }

end Go.Proofs.YtobiepkhommeaaaGreatDoor
