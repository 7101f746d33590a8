import Derived.Test.YtkodfmpaeemaiaaDoorCls7
import Derived.Test.YtkodfmpaeemaiaaDoorCls6
import Derived.Test.YtkodfmpaeemaiaaDoorCls9
import Derived.Deep.CutBlock
/- What the laws of layer 6 share: boxes of texts. -/
namespace Go.Proofs.YtkodfmpaeemaiaaDoor.C6
open Go.RowKit Go.Sort

/-- the box of two texts -/
def Two (w : World) (g : Nat) (u x : ByteArray) : Prop := w.heap[g]? = some (.cells #[.string u, .string x] 9 (0, 0))
theorem Two.new (w : World) (u x : ByteArray) : Two (w.alloc (.cells #[.string u, .string x] 9)) w.heap.size u x := by
  unfold Two World.alloc
  simp
theorem Two.lt {w : World} {g : Nat} {u x : ByteArray} (h : Two w g u x) : g < w.heap.size := (Array.getElem?_eq_some_iff.1 h).1
theorem Two.below {w w' : World} {g : Nat} {u x : ByteArray} (h : Two w g u x) (b : Below w.heap.size w w') : Two w' g u x := (b.block g h.lt).trans h
theorem Two.at {w : World} {g : Nat} {u x : ByteArray} (h : Two w g u x) {i : Nat} (hi : i < 2) : ∃ y, w.cell? ⟨g, i, none⟩ = some (.string y) ∧ (y = u ∨ y = x) := by
  unfold Two at h
  have : i = 0 ∨ i = 1 := by omega
  rcases this with rfl | rfl
  · exact ⟨u, by simp [World.cell?, h], .inl rfl⟩
  · exact ⟨x, by simp [World.cell?, h], .inr rfl⟩


/-- what Format returns of integers is one answer -/
theorem fmt_one (zs : List Int) : ∃ (T : ByteArray) (x : Int), ∀ e, FmtPost zs e → e = .returned (.tuple #[.string T, .int .i64 x]) := by
  by_cases h : ∃ p, Pts p ∧ zs = zz p
  · obtain ⟨p, hp, rfl⟩ := h
    refine ⟨txt p, 0, fun e he => ?_⟩
    rcases he with ⟨q, hq, e1, e2⟩ | ⟨hno, _⟩
    · rw [e2, zz_inj e1]
    · exact absurd rfl (hno p hp)
  · refine ⟨⟨#[]⟩, 64, fun e he => ?_⟩
    rcases he with ⟨q, hq, e1, e2⟩ | ⟨_, e2⟩
    · exact absurd ⟨q, hq, e1⟩ h
    · exact e2
theorem fmt_txt {p : List Nat} (hp : Pts p) {e : Ending} (h : FmtPost (zz p) e) : e = .returned (.tuple #[.string (txt p), .int .i64 0]) := by
  rcases h with ⟨q, hq, e1, e2⟩ | ⟨hno, _⟩
  · rw [e2, zz_inj e1]
  · exact absurd rfl (hno p hp)
end Go.Proofs.YtkodfmpaeemaiaaDoor.C6
