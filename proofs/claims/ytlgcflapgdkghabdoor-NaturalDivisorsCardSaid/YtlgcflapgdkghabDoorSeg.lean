/- Plain facts on a stretch of limbs within a longer list. -/
import Derived.Test.YtlgcflapgdkghabDoorMath
namespace Go.Proofs.YtlgcflapgdkghabDoor

/-- the number of the m limbs from place o on -/
def vs (cs : List Nat) (o : Nat) : Nat → Nat
  | 0 => 0
  | i + 1 => vs cs o i + lm cs (o + i) * pw i
theorem vs_zero (cs : List Nat) (i : Nat) : vs cs 0 i = vl cs i := by
  induction i with
  | zero => rfl
  | succ i ih => rw [vs, vl, ih, Nat.zero_add]
theorem vs_congr (xs ys : List Nat) (o i : Nat) (h : ∀ j, j < i → lm xs (o + j) = lm ys (o + j)) : vs xs o i = vs ys o i := by
  induction i with
  | zero => rfl
  | succ i ih => rw [vs, vs, ih (fun j hj => h j (by omega)), h i (by omega)]
theorem vs_drop (cs : List Nat) (o i : Nat) : vs cs o i = vl (cs.drop o) i := by
  induction i with
  | zero => rfl
  | succ i ih => rw [vs, vl, ih, lm_drop]
theorem vs_set_ge (xs : List Nat) (o j x i : Nat) (h : o + i ≤ j) : vs (xs.set j x) o i = vs xs o i := by
  by_cases hj : j < xs.length
  · exact vs_congr _ _ _ _ (fun k hk => by rw [lm_set xs j x _ hj, if_neg (by omega)])
  · rw [List.set_eq_of_length_le (by omega)]
theorem vs_lt {xs : List Nat} (h : Lims xs) (o i : Nat) : vs xs o i < pw i := by rw [vs_drop]; exact vl_lt (lims_drop h o) i
theorem vs_split (cs : List Nat) (o i j : Nat) : vs cs o (i + j) = vs cs o i + pw i * vs cs (o + i) j := by
  induction j with
  | zero => simp [vs]
  | succ j ih =>
    rw [show i + (j + 1) = (i + j) + 1 by omega, vs, ih, vs, pw_add, Nat.add_assoc o i j, Nat.mul_add]
    grind
theorem vl_split_vs (cs : List Nat) (i j : Nat) : vl cs (i + j) = vl cs i + pw i * vs cs i j := by
  have := vs_split cs 0 i j
  rwa [vs_zero, vs_zero, Nat.zero_add] at this

/-- one limb of a sum with a multiple -/
theorem mul_step (V N T f n t c P d c' : Nat) (h : V + c * P = f * N + T) (h2 : c + (n * f + t) = d + 4294967296 * c') : V + d * P + c' * (P * 4294967296) = f * (N + n * P) + (T + t * P) := by
  have h3 : (c + (n * f + t)) * P = (d + 4294967296 * c') * P := by rw [h2]
  grind
/-- one limb of a difference with a multiple -/
theorem sub_step (V N T f n t c b P p d x b' c' : Nat) (h : V + f * N = T + (b + c) * P) (hp : n * f = p) (h2 : c + p = d + 4294967296 * c') (h3 : t + b' * 4294967296 = x + d + b) :
    V + x * P + f * (N + n * P) = T + t * P + (b' + c') * (P * 4294967296) := by
  have e1 : (c + p) * P = (d + 4294967296 * c') * P := by rw [h2]
  have e2 : (t + b' * 4294967296) * P = (x + d + b) * P := by rw [h3]
  subst hp
  grind
theorem mul_le_limb {n f : Nat} (hn : n < 4294967296) (hf : f < 4294967296) : n * f ≤ 18446744065119617025 := by
  have := Nat.mul_le_mul (Nat.le_of_lt_succ hn : n ≤ 4294967295) (Nat.le_of_lt_succ hf : f ≤ 4294967295)
  omega
end Go.Proofs.YtlgcflapgdkghabDoor
