import Derived.Test.YtkedgkfdmdlhoaaDoorPrd2
import Derived.Shelf.SlSortCmp.Insertion
/- Layer 9: attributes sorted by slices.SortStableFunc; package product's Normalize. -/
namespace Go.Proofs.YtkedgkfdmdlhoaaDoor.P9
open Go.RowKit Go.Sort C6

theorem lt_lss (x y : Atr) : ltOf (fun x y : Atr => Lib.compareBytes x.1.data.toList y.1.data.toList) x y = lss x y := by
  unfold ltOf lss nmL
  exact decide_eq_decide.2 (cmp_neg _ _)

/-- what a sort leaves: the same slice owns the sorted list -/
def SPost (base : Nat) (l : List Atr) (v : Value) (w : World) (e : Ending) (w' : World) : Prop := e = .returned (.tuple #[]) ∧ w'.ownsRow base 52 2 v l.length (atv (isort l)) ∧ w.grownBy w' v.ownBlock

theorem own_mono' {w : World} {base base' n size : Nat} {e : TypeId} {v : Value} {xs : List Value} (h : w.ownsRow base e size v n xs) (hb : base' ≤ base) : w.ownsRow base' e size v n xs :=
  ⟨h.1, h.2.imp id fun ⟨g, cap, cur, hv, h1, h2⟩ => ⟨g, cap, cur, hv, Nat.le_trans hb h1, h2⟩⟩
/-- what Normalize returns: the product, its attributes sorted in new memory -/
def NPost (p : Pd) (l : List Atr) (w : World) (e : Ending) (w' : World) : Prop := ∃ a c, e = .returned (.agg #[.string p.id, .string p.co, .string p.br, .int .i64 p.d, .int .i64 p.c, .int .i64 p.a, .slice a l.length c]) ∧ w'.ownsRow (w.heap.size + 2) 52 2 (.slice a l.length c) l.length (atv (isort l)) ∧ Below w.heap.size w w'

end Go.Proofs.YtkedgkfdmdlhoaaDoor.P9
