import Derived.Test.YtdcnkebcpaelpaaGreatDoorRef2
import Derived.Test.YtdcnkebcpaelpaaGreatDoorFmts
/- The laws' sanity check holds; what the laws themselves share. -/
namespace Go.Proofs.YtdcnkebcpaelpaaGreatDoor
open Go.RowKit

/-- Divide where the divisor has at most one limb -/
theorem Divide_small (ao bo : Option Addr) (ca cb : Nat) (xs ys : List Nat) (w : World) (ha : Rd w ao ca xs) (hb : Rd w bo cb ys) (hp : 0 < val ys) (h1 : (trim ys).length ≤ 1) (hx : xs.length ≤ 1099511627776) :
    Calls Tryz.prog 38 #[.slice ao xs.length ca, .slice bo ys.length cb] w (DivPost (val xs) (val ys) w) := by
  have h2 : (trim ys).length = 1 := by
    rcases Nat.eq_zero_or_pos (trim ys).length with e | e
    · have := trim_nil_val e; omega
    · omega
  rcases Nat.lt_or_ge (trim xs).length (trim ys).length with h | h
  · exact Divide_less ao bo ca cb xs ys w ha hb h hx
  · exact Divide_one ao bo ca cb xs ys w ha hb h2 (by omega) hx

theorem rd_new (w : World) (cs : Array Value) (xs : List Nat) (e : cs = (lits xs).toArray) (hl : Lims xs) (cap : Nat) (hc : cap = xs.length) (hb : cap ≤ 9223372036854775807) :
    Rd (w.alloc (.cells cs 35)) (some ⟨w.heap.size, 0, none⟩) cap xs := by
  subst e; subst hc
  exact (Own.new w xs).rd hl _ (Nat.le_refl _) hb

theorem dec_big_num : Lib.decDigits 4294967296 = [52, 50, 57, 52, 57, 54, 55, 50, 57, 54] := by
  repeat (rw [dec_big (by omega)])
  rw [dec_small (by omega)]
  rfl

end Go.Proofs.YtdcnkebcpaelpaaGreatDoor
