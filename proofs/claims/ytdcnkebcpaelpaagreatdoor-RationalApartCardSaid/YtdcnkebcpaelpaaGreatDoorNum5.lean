import Derived.Test.YtdcnkebcpaelpaaGreatDoorDiv4
/- Quotients in the form of numbers; literals. -/
namespace Go.Proofs.YtdcnkebcpaelpaaGreatDoor
open Go.RowKit

/-- what Divide gives, the two numbers named -/
def Divs (Q R : Nat) (w : World) (e : Ending) (w' : World) : Prop :=
  ∃ qo qc ro rc, e = .returned (.tuple #[.slice qo (dig Q).length qc, .slice ro (dig R).length rc, .bool true]) ∧ Fr w.heap.size w' qo qc (dig Q) ∧ Fr w.heap.size w' ro rc (dig R) ∧ Below w.heap.size w w'
theorem Divide_numD {ao bo : Option Addr} {n m ca cb N M Q R : Nat} {w : World} (ha : Num w ao n ca N) (hb : Num w bo m cb M) (hp : 0 < M) (hQ : N / M = Q) (hR : N % M = R) : Calls Tryz.prog 38 #[.slice ao n ca, .slice bo m cb] w (Divs Q R w) := by
  subst hQ; subst hR; exact Divide_num ha hb hp
theorem one_new (w : World) : Num (w.alloc (.cells #[.int .u32 1] 35)) (some ⟨w.heap.size, 0, none⟩) 1 1 1 :=
  ⟨[1], rfl, rd_new w _ [1] rfl (lims_cons (by omega) lims_nil) 1 rfl (by omega), rfl, by decide⟩
theorem below_new (w : World) (o : Obj) : Below w.heap.size w (w.alloc o) := (Below.refl _ _).alloc (Nat.le_refl _) o
theorem rAdd_numD {ao bo : Option Addr} {n m ca cb N M S : Nat} {w : World} (ha : Num w ao n ca N) (hb : Num w bo m cb M) (hS : N + M = S) : Calls Tryz.prog 33 #[.slice ao n ca, .slice bo m cb] w (Makes S w) := by
  subst hS; exact rAdd_num ha hb
theorem rSub_numD {ao bo : Option Addr} {n m ca cb N M D : Nat} {w : World} (ha : Num w ao n ca N) (hb : Num w bo m cb M) (hle : M ≤ N) (hD : N - M = D) :
    Calls Tryz.prog 34 #[.slice ao n ca, .slice bo m cb] w fun e w' => ∃ ao' cap', e = .returned (.tuple #[.slice ao' (dig D).length cap', .bool true]) ∧ Fr w.heap.size w' ao' cap' (dig D) ∧ Below w.heap.size w w' := by
  subst hD; exact rSub_num ha hb hle
theorem dig0 : (dig 0).length = 0 := rfl
theorem exact_less {A B : Nat} (ha : 0 < A) (hb : 0 < B) : (A * B - 1) / B = A - 1 ∧ (A * B - 1) % B = B - 1 := by
  obtain ⟨a, rfl⟩ : ∃ a, A = a + 1 := ⟨A - 1, by omega⟩
  have e : (a + 1) * B - 1 = B * a + (B - 1) := by rw [Nat.add_mul, Nat.mul_comm a B]; omega
  rw [e, Nat.mul_add_div hb, Nat.mul_add_mod, Nat.div_eq_of_lt (by omega), Nat.mod_eq_of_lt (by omega)]
  exact ⟨by omega, rfl⟩
end Go.Proofs.YtdcnkebcpaelpaaGreatDoor
