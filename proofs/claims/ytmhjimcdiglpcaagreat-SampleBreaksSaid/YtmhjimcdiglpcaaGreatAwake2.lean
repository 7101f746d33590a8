import Derived.Test.YtmhjimcdiglpcaaGreatRat8
/- The sanity check of layer 2's laws holds. -/
namespace Go.Proofs.YtmhjimcdiglpcaaGreat
open Go.RowKit

theorem dec_833 : Lib.decDigits 833 = [56, 51, 51] := by
  repeat (rw [dec_big (by omega)])
  rw [dec_small (by omega)]
  rfl
theorem awake_units : ru (rn (rq false 1 2 + rq false 1 3)) (rq false 1 2 + rq false 1 3).den (10 ^ 3) = 833 := by decide +kernel
theorem awake_sign : rs (rq false 1 2 + rq false 1 3) = false := by decide +kernel
theorem Fraction_pos (n d : Nat) (hn : n ≤ 1000000) (hd : d ≤ 1000000) (hp : 0 < d) (i j : Int) (hi : i = n) (hj : j = d) (w : World) : Calls Tryz.prog 69 #[.int .i64 i, .int .i64 j] w (MakesE (rq false n d) 2 w) := by
  subst hi; subst hj
  have h := Fraction_q (n : Int) (d : Int) (by omega) (by omega) (by omega) (by omega) (by omega) w
  rw [decide_eq_false (show ¬ (n : Int) < 0 by omega), decide_eq_false (show ¬ (d : Int) < 0 by omega), Int.natAbs_natCast, Int.natAbs_natCast] at h
  exact h

end Go.Proofs.YtmhjimcdiglpcaaGreat
