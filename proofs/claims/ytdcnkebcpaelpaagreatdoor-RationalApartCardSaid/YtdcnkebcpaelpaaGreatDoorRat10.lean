import Derived.Test.YtdcnkebcpaelpaaGreatDoorRat9
/- What the laws of two numbers share; differences and comparisons of both packages. -/
namespace Go.Proofs.YtdcnkebcpaelpaaGreatDoor
open Go.RowKit
-- COMMON
/-- two structs that the law holds, cut -/
theorem cells6 {w : World} {g : Nat} {u v x u' v' x' : Value} (h1 : w.heap[g]? = some (.cells #[u, v, x] 25 (0, 0))) (h2 : w.heap[g + 1]? = some (.cells #[u', v', x'] 25 (0, 0))) :
    (w.cell? ⟨g, 0, none⟩ = some u ∧ w.cell? ⟨g, 1, none⟩ = some v ∧ w.cell? ⟨g, 2, none⟩ = some x ∧ w.frozen? ⟨g, 0, none⟩ = false ∧ w.frozen? ⟨g, 1, none⟩ = false ∧ w.frozen? ⟨g, 2, none⟩ = false) ∧
    (w.cell? ⟨g + 1, 0, none⟩ = some u' ∧ w.cell? ⟨g + 1, 1, none⟩ = some v' ∧ w.cell? ⟨g + 1, 2, none⟩ = some x' ∧ w.frozen? ⟨g + 1, 0, none⟩ = false ∧ w.frozen? ⟨g + 1, 1, none⟩ = false ∧ w.frozen? ⟨g + 1, 2, none⟩ = false) :=
  ⟨at_block h1, at_block h2⟩
theorem set3_at {w : World} {g : Nat} {u v x : Value} (h : w.heap[g]? = some (.cells #[u, v, x] 25 (0, 0))) (a b c : Value) : (((w.setCell ⟨g, 0, none⟩ a).setCell ⟨g, 1, none⟩ b).setCell ⟨g, 2, none⟩ c).heap[g]? = some (.cells #[a, b, c] 25 (0, 0)) := by
  simp [World.setCell, Array.getElem?_modify, h]
theorem set3_off {w : World} {g k : Nat} (hk : k ≠ g) (a b c : Value) : (((w.setCell ⟨g, 0, none⟩ a).setCell ⟨g, 1, none⟩ b).setCell ⟨g, 2, none⟩ c).heap[k]? = w.heap[k]? := by
  simp [World.setCell, Array.getElem?_modify, Ne.symm hk]
theorem carry {w w' : World} {g : Nat} {o : Obj} (h : w.heap[g]? = some o) (hb : Below w.heap.size w w') : w'.heap[g]? = some o := (hb.block g (Array.getElem?_eq_some_iff.1 h).1).trans h
/-- what the cut structs are worth -/
theorem cut_rq {s : Bool} {ao bo : Option Addr} {ca cb : Nat} {xs ys us vs : List Nat} {w : World} (ha : Rd w ao ca xs) (hb : Rd w bo cb ys) (hu : us = xs.take 12) (hv : vs = ys.take 12) : RQ w s ao us.length ca bo vs.length cb (rq s (val us) (dn (val vs))) 12 := by
  obtain ⟨n1, s1⟩ := Cut_num ha hu
  obtain ⟨n2, s2⟩ := Cut_num hb hv
  refine ⟨val us, val vs, n1, n2, s1, s2, rfl, ?_⟩
  unfold dn; split
  · exact ⟨by simp [pw], by omega⟩
  · exact s2
-- COMMON

theorem set0_at {w : World} {g : Nat} {u v x : Value} {t : TypeId} (h : w.heap[g]? = some (.cells #[u, v, x] t (0, 0))) (a : Value) : (w.setCell ⟨g, 0, none⟩ a).heap[g]? = some (.cells #[a, v, x] t (0, 0)) := by
  simp [World.setCell, Array.getElem?_modify, h]
theorem set0_off {w : World} {g k : Nat} (hk : k ≠ g) (a : Value) : (w.setCell ⟨g, 0, none⟩ a).heap[k]? = w.heap[k]? := by
  simp [World.setCell, Array.getElem?_modify, Ne.symm hk]
/-- a struct that came in with its sign turned -/
theorem RQ.turn {w : World} {t : Bool} {po qo : Option Addr} {l cl j cj k : Nat} {q : Rat} (h : RQ w t po l cl qo j cj q k) : RQ w (!t) po l cl qo j cj (-q) k := by
  obtain ⟨N, D, h1, h2, h3, h4, h5, h6⟩ := h
  exact ⟨N, D, h1, h2, h3, h4, by rw [rq_neg, h5], h6⟩
theorem cmpn_mag (a b : Nat) : -1 ≤ cmpn a b ∧ cmpn a b ≤ 1 := by unfold cmpn; split <;> (try split) <;> omega
theorem cq_mag (p q : Rat) : -1 ≤ cq p q ∧ cq p q ≤ 1 := sgn_mag _
theorem wrap_sign {a b : Int} (ha : -1 ≤ a ∧ a ≤ 1) (hb : -1 ≤ b ∧ b ≤ 1) : IntKind.i64.wrap (a * b) = a * b := by
  have : a = -1 ∨ a = 0 ∨ a = 1 := by omega
  have : b = -1 ∨ b = 0 ∨ b = 1 := by omega
  rcases ‹a = -1 ∨ a = 0 ∨ a = 1› with rfl | rfl | rfl <;> rcases ‹b = -1 ∨ b = 0 ∨ b = 1› with rfl | rfl | rfl <;> rfl

end Go.Proofs.YtdcnkebcpaelpaaGreatDoor
