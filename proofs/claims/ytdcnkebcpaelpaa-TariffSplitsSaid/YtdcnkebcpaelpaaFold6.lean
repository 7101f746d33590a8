import Derived.Test.YtdcnkebcpaelpaaInts10
/- priceofficemake.Fold. -/
namespace Go.Proofs.Ytdcnkebcpaelpaa.C6
open Go.RowKit

theorem Fold_v (v : Int) (k : Nat) (hk : 1 ≤ k) (hk2 : k ≤ 1000000) (w : World) (n : Int) (hn : n = k) :
    Calls Try.prog 17 #[.int .i64 v, .int .i64 n] w fun e w' => ∃ r : Nat, e = .returned (.int .i64 (r : Int)) ∧ r < k ∧ w = w' := by
  subst hn
  obtain ⟨u, hu⟩ : ∃ u : Nat, u = (IntKind.u64.wrap v).toNat := ⟨_, rfl⟩
  have hb : 0 ≤ IntKind.u64.wrap v ∧ IntKind.u64.wrap v ≤ 18446744073709551615 := by rw [IntKind.wrap_u64]; omega
  have hw : IntKind.u64.wrap v = (u : Int) := by omega
  have hub : (u : Int) ≤ 18446744073709551615 := by omega
  have hr : u % k < k := Nat.mod_lt _ (by omega)
  have he : (u : Int) % (k : Int) = ((u % k : Nat) : Int) := (Int.natCast_emod u k).symm
  have E := Lib.hid he
  have hrb0 : 0 ≤ (u : Int) % (k : Int) := by omega
  have hrb : (u : Int) % (k : Int) ≤ 1000000 := by omega
  have hmx : max (k : Int) 1 = (k : Int) := by omega
  clear hu hb he
  go_enter Try.func17, Try.ntmps17
  go_wp2
  go_ret
  exact ⟨u % k, ret_i64 E.out, hr, rfl⟩

end Go.Proofs.Ytdcnkebcpaelpaa.C6
