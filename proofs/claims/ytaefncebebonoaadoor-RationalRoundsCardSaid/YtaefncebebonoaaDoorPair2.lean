import Derived.Test.YtaefncebebonoaaDoorPair
/- Two numbers that a law holds, and two results in boxes of their own. -/
namespace Go.Proofs.YtaefncebebonoaaDoor
open Go.RowKit

/-- the law's two structs, cut, at a world of the walk -/
structure TwoW (w W : World) (s t : Bool) (ao : Option Addr) (n ca : Nat) (bo : Option Addr) (m cb : Nat) (po : Option Addr) (l cl : Nat) (qo : Option Addr) (j cj : Nat) (p q : Rat) (k : Nat) : Prop where
  x : W.heap[w.heap.size]? = some (.cells #[.bool s, .slice ao n ca, .slice bo m cb] 25 (0, 0))
  y : W.heap[w.heap.size + 1]? = some (.cells #[.bool t, .slice po l cl, .slice qo j cj] 25 (0, 0))
  p : RQ W s ao n ca bo m cb p k
  q : RQ W t po l cl qo j cj q k
  b : Below w.heap.size w W
theorem TwoW.below {w W W' : World} {s t : Bool} {ao : Option Addr} {n ca : Nat} {bo : Option Addr} {m cb : Nat} {po : Option Addr} {l cl : Nat} {qo : Option Addr} {j cj : Nat} {p q : Rat} {k : Nat} (h : TwoW w W s t ao n ca bo m cb po l cl qo j cj p q k) (hb : Below W.heap.size W W') : TwoW w W' s t ao n ca bo m cb po l cl qo j cj p q k :=
  ⟨carry h.x hb, carry h.y hb, h.p.below hb, h.q.below hb, h.b.trans (hb.mono h.b.size)⟩
theorem TwoW.lt {w W : World} {s t : Bool} {ao : Option Addr} {n ca : Nat} {bo : Option Addr} {m cb : Nat} {po : Option Addr} {l cl : Nat} {qo : Option Addr} {j cj : Nat} {p q : Rat} {k : Nat} (h : TwoW w W s t ao n ca bo m cb po l cl qo j cj p q k) : w.heap.size + 1 < W.heap.size := (Array.getElem?_eq_some_iff.1 h.y).1
theorem TwoW.base {w W W' : World} {s t : Bool} {ao : Option Addr} {n ca : Nat} {bo : Option Addr} {m cb : Nat} {po : Option Addr} {l cl : Nat} {qo : Option Addr} {j cj : Nat} {p q : Rat} {k : Nat} (h : TwoW w W s t ao n ca bo m cb po l cl qo j cj p q k) (hb : Below W.heap.size W W') : TwoW w W' s t ao n ca bo m cb po l cl qo j cj p q k := h.below hb
/-- behind the second statement: both results lie in boxes of their own -/
def PairCut (w : World) (s t : Bool) (ao : Option Addr) (n ca : Nat) (bo : Option Addr) (m cb : Nat) (po : Option Addr) (l cl : Nat) (qo : Option Addr) (j cj : Nat) (p q : Rat) (k : Nat) (q1 q2 : Rat) (l1 l2 : Nat) (v5 v6 : Value) (W : World) : Prop :=
  TwoW w W s t ao n ca bo m cb po l cl qo j cj p q k ∧ ∃ g5 g6 s5 a5 n5 c5 o5 m5 d5 s6 a6 n6 c6 o6 m6 d6, v5 = .pointer (some ⟨g5, 0, none⟩) ∧ v6 = .pointer (some ⟨g6, 0, none⟩) ∧
    W.heap[g5]? = some (.cells #[.bool s5, .slice a5 n5 c5, .slice o5 m5 d5] 25 (0, 0)) ∧ W.heap[g6]? = some (.cells #[.bool s6, .slice a6 n6 c6, .slice o6 m6 d6] 25 (0, 0)) ∧
    CQ 0 W s5 a5 n5 c5 o5 m5 d5 q1 l1 ∧ CQ 0 W s6 a6 n6 c6 o6 m6 d6 q2 l2
theorem pair_cut {w W : World} {s t : Bool} {ao : Option Addr} {n ca : Nat} {bo : Option Addr} {m cb : Nat} {po : Option Addr} {l cl : Nat} {qo : Option Addr} {j cj : Nat} {p q : Rat} {k : Nat} {q1 q2 : Rat} {l1 l2 : Nat} {v5 v6 u5 u6 : Value} (h : TwoW w W s t ao n ca bo m cb po l cl qo j cj p q k) (h5 : Holds W v5 u5) (h6 : Holds W v6 u6) (i5 : IsQ q1 l1 u5 W) (i6 : IsQ q2 l2 u6 W) : PairCut w s t ao n ca bo m cb po l cl qo j cj p q k q1 q2 l1 l2 v5 v6 W := by
  obtain ⟨g5, a, b, c, rfl, rfl, e5⟩ := h5
  obtain ⟨g6, a', b', c', rfl, rfl, e6⟩ := h6
  obtain ⟨s5, a5, n5, c5, o5, m5, d5, e, c5'⟩ := i5
  obtain ⟨s6, a6, n6, c6, o6, m6, d6, e', c6'⟩ := i6
  injection e with e; injection e with e; injection e' with e'; injection e' with e'
  simp only [List.cons.injEq, and_true] at e e'
  obtain ⟨rfl, rfl, rfl⟩ := e
  obtain ⟨rfl, rfl, rfl⟩ := e'
  exact ⟨h, g5, g6, _, _, _, _, _, _, _, _, _, _, _, _, _, _, rfl, rfl, e5, e6, c5', c6'⟩
/-- what the second statement's operations yield -/
def PairR (n : Nat) (x y : Value) (q1 q2 : Rat) (l1 l2 : Nat) : Nat → Value → World → Prop
  | 0 => fun v _ => v = x
  | 1 => fun v _ => v = y
  | 2 => IsQ q1 l1
  | 3 => fun v _ => v = x
  | 4 => fun v _ => v = y
  | 5 => IsQ q2 l2
  | 6 => IsBox n
  | 7 => IsBox n
  | _ => fun _ _ => True
theorem PairR.ext {n m : Nat} {x y : Value} {q1 q2 : Rat} {l1 l2 : Nat} (i : Nat) (v : Value) (w w' : World) (h : PairR n x y q1 q2 l1 l2 i v w) (hE : Ext m w w') : PairR n x y q1 q2 l1 l2 i v w' := by
  match i, h with
  | 0, h => exact h
  | 1, h => exact h
  | 2, h => exact IsQ.ext h hE
  | 3, h => exact h
  | 4, h => exact h
  | 5, h => exact IsQ.ext h hE
  | 6, h => exact IsBox.ext h hE
  | 7, h => exact IsBox.ext h hE
  | _ + 8, h => exact h
end Go.Proofs.YtaefncebebonoaaDoor
