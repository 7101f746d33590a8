import Derived.Test.YtaefncebebonoaaDoorPair2
/- Two results in boxes of their own, of calls with two arguments. -/
namespace Go.Proofs.YtaefncebebonoaaDoor
open Go.RowKit

theorem RQ.self {w : World} {s : Bool} {ao : Option Addr} {n ca : Nat} {bo : Option Addr} {m cb : Nat} {q : Rat} {k : Nat} (h : RQ w s ao n ca bo m cb q k) : rq s (rn q) q.den = q := by
  obtain ⟨N, D, _, _, _, _, hq, _⟩ := h
  have hr := rs_rq (s := s) (N := N) (dn_pos D)
  have hn := rn_rq (s := s) (N := N) (dn_pos D)
  rw [← hn, hq] at hr
  by_cases h0 : 0 < rn q
  · rw [decide_eq_true h0, Bool.and_true] at hr
    rw [← hr]; exact rq_self q
  · have h1 : rn q = 0 := by omega
    have h2 := rq_self q
    rw [h1] at h2 ⊢
    refine Eq.trans ?_ h2
    unfold rq
    rw [sg_zero, sg_zero]
/-- what the second statement's operations yield -/
def PairS (n : Nat) (u0 u1 u3 u4 : Value) (q1 q2 : Rat) (l1 l2 : Nat) : Nat → Value → World → Prop
  | 0 => fun v _ => v = u0
  | 1 => fun v _ => v = u1
  | 2 => IsQ q1 l1
  | 3 => fun v _ => v = u3
  | 4 => fun v _ => v = u4
  | 5 => IsQ q2 l2
  | 6 => IsBox n
  | 7 => IsBox n
  | _ => fun _ _ => True
theorem PairS.ext {n m : Nat} {u0 u1 u3 u4 : Value} {q1 q2 : Rat} {l1 l2 : Nat} (i : Nat) (v : Value) (w w' : World) (h : PairS n u0 u1 u3 u4 q1 q2 l1 l2 i v w) (hE : Ext m w w') : PairS n u0 u1 u3 u4 q1 q2 l1 l2 i v w' := by
  match i, h with
  | 0, h => exact h
  | 1, h => exact h
  | 2, h => exact IsQ.ext h hE
  | 3, h => exact h
  | 4, h => exact h
  | 5, h => exact IsQ.ext h hE
  | 6, h => exact IsBox.ext h hE
  | 7, h => exact IsBox.ext h hE
  | _ + 8, h => exact h
end Go.Proofs.YtaefncebebonoaaDoor
