import Derived.Test.YtjgofoekocdecaaGreatPowM
import Derived.Test.YtjgofoekocdecaaGreatNum5
import Derived.Test.YtjgofoekocdecaaGreatShelf
import Derived.Lib.RabinKarpLaws
/- Contracts of the powers: natural.power and the reference's Raise. -/
namespace Go.Proofs.YtjgofoekocdecaaGreat
open Go.RowKit

theorem len_any (k : Nat) (w : World) (h1 : k < 9223372036854775808) : Calls Tryz.prog 63 #[.int .u64 (k : Int)] w fun e w' => e = .returned (.int .i64 ((bl k : Nat) : Int)) ∧ w = w' := by
  refine (Tryz.bits_Len k w (by omega) (by omega)).mono ?_
  rintro e w' ⟨rfl, rfl⟩
  rw [Int.toNat_natCast, bitLen_bl k (by omega)]
  exact ⟨rfl, rfl⟩

end Go.Proofs.YtjgofoekocdecaaGreat
