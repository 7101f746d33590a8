/- Plain facts on the long division and on shifts. No program here. -/
import Derived.Test.YtlgcflapgdkghabDoorSeg
namespace Go.Proofs.YtlgcflapgdkghabDoor

/-- the digit of the quotient is not above the first guess -/
theorem guess_ge {u v q top high P : Nat} (hh : 0 < high) (hq : q * v ≤ u) (hu : u < (top + 1) * P) (hv : high * P ≤ v) : q ≤ top / high := by
  have h1 : q * high * P ≤ u := Nat.le_trans (by rw [Nat.mul_assoc]; exact Nat.mul_le_mul_left _ hv) hq
  have h3 := Nat.lt_of_mul_lt_mul_right (Nat.lt_of_le_of_lt h1 hu)
  rw [Nat.le_div_iff_mul_le hh]; omega
/-- a guess that is too great for the three highest limbs is too great -/
theorem guess_step {u v q L M P digit high next top third rest : Nat} (hu : u = L + (top * 4294967296 + third) * P) (hL : L < P) (hv : v = M + (high * 4294967296 + next) * P)
    (hr : digit * high + rest = top) (hgt : rest * 4294967296 + third < digit * next) (hq : q * v ≤ u) : q < digit := by
  have h1 : top * 4294967296 + third + 1 ≤ digit * (high * 4294967296 + next) := by
    rw [← hr, Nat.mul_add, ← Nat.mul_assoc, Nat.add_mul]; omega
  have h2 : (top * 4294967296 + third + 1) * P ≤ digit * (high * 4294967296 + next) * P := Nat.mul_le_mul_right _ h1
  have h3 : digit * ((high * 4294967296 + next) * P) ≤ digit * v := Nat.mul_le_mul_left _ (by rw [hv]; exact Nat.le_add_left _ _)
  rw [← Nat.mul_assoc] at h3
  have h4 : (top * 4294967296 + third + 1) * P = (top * 4294967296 + third) * P + P := Nat.succ_mul ..
  have h5 : q * v < digit * v := by omega
  exact Nat.lt_of_mul_lt_mul_right h5
/-- a guess that is not too great for them is at most one too great -/
theorem guess_end {u v L M P digit high next top third rest : Nat} (hu : u = L + (top * 4294967296 + third) * P) (hv : v = M + (high * 4294967296 + next) * P) (hM : M < P) (hh : 0 < high)
    (hr : digit * high + rest = top) (hle : digit * next ≤ rest * 4294967296 + third) (hd : digit < 4294967296) : digit * v ≤ u + v := by
  have h1 : digit * (high * 4294967296 + next) ≤ top * 4294967296 + third := by
    rw [← hr, Nat.mul_add, ← Nat.mul_assoc, Nat.add_mul]; omega
  have h2 : digit * (high * 4294967296 + next) * P ≤ (top * 4294967296 + third) * P := Nat.mul_le_mul_right _ h1
  have h3 : digit * v = digit * M + digit * (high * 4294967296 + next) * P := by rw [hv, Nat.mul_add, Nat.mul_assoc]
  have h4 : digit * M ≤ 4294967296 * P := Nat.mul_le_mul (by omega) (by omega)
  have h5 : 1 * 4294967296 * P ≤ (high * 4294967296 + next) * P := Nat.mul_le_mul_right _ (by omega)
  omega
/-- top below (high + 1) * base -/
theorem top_lt {u v L M P high next top third : Nat} (hu : u = L + (top * 4294967296 + third) * P) (hv : v = M + (high * 4294967296 + next) * P) (hM : M < P) (hn : next < 4294967296) (huv : u < v * 4294967296) : top < (high + 1) * 4294967296 := by
  have h1 : v < (high + 1) * 4294967296 * P := by
    have : (high * 4294967296 + next + 1) * P ≤ (high + 1) * 4294967296 * P := Nat.mul_le_mul_right _ (by omega)
    have h2 : (high * 4294967296 + next + 1) * P = (high * 4294967296 + next) * P + P := Nat.succ_mul ..
    omega
  have h2 : top * 4294967296 * P ≤ u := by rw [hu, Nat.add_mul]; omega
  have h3 : top * 4294967296 * P < (high + 1) * 4294967296 * 4294967296 * P := by
    have e : (high + 1) * 4294967296 * 4294967296 * P = (high + 1) * 4294967296 * P * 4294967296 := by grind
    omega
  have h4 := Nat.lt_of_mul_lt_mul_right h3
  omega
theorem digit_lt {digit high rest top : Nat} (hr : digit * high + rest = top) (ht : top < (high + 1) * 4294967296) (hrest : 4294967296 ≤ rest) : digit < 4294967296 := by
  have h1 : digit * high < 4294967296 * high := by omega
  exact Nat.lt_of_mul_lt_mul_right h1
/-- a guess of base or more is too great -/
theorem quo_lt_base {u v q : Nat} (hq : q * v ≤ u) (huv : u < v * 4294967296) : q < 4294967296 := by
  have h1 : q * v < 4294967296 * v := by omega
  exact Nat.lt_of_mul_lt_mul_right h1
theorem step_rest {digit high rest top : Nat} (hr : digit * high + rest = top) (hd : 0 < digit) : (digit - 1) * high + (rest + high) = top := by
  obtain ⟨d, rfl⟩ : ∃ d, digit = d + 1 := ⟨digit - 1, by omega⟩
  rw [Nat.succ_mul] at hr
  rw [Nat.add_sub_cancel]; omega
theorem quo_of {u v d : Nat} (h1 : u < (d + 1) * v) (h2 : d * v ≤ u) : u / v = d := by
  refine Nat.div_eq_of_lt_le ?_ ?_ <;> omega
/-- the three highest limbs of a stretch of k + 3 -/
theorem vs_top3 (cs : List Nat) (o k : Nat) : vs cs o (k + 3) = vs cs o k + ((lm cs (o + (k + 2)) * 4294967296 + lm cs (o + (k + 1))) * 4294967296 + lm cs (o + k)) * pw k := by
  rw [vs, vs, vs, pw_succ (k + 1), pw_succ k, ← Nat.add_assoc, ← Nat.add_assoc]; grind
theorem vl_top2 (cs : List Nat) (k : Nat) : vl cs (k + 2) = vl cs k + (lm cs (k + 1) * 4294967296 + lm cs k) * pw k := by
  rw [vl, vl, pw_succ]; grind
/-- a stretch within a number below pw, from its place on -/
theorem vs_of_lt {cs : List Nat} {p n : Nat} (h : val (cs.drop p) < pw n) : val (cs.drop p) = vs cs p n := by
  rw [vs_drop]
  rcases Nat.lt_or_ge n (cs.drop p).length with k | k
  · have e := vl_split (cs.drop p) n (by omega)
    rcases Nat.eq_zero_or_pos (val ((cs.drop p).drop n)) with z | z
    · rw [z] at e; omega
    · have : pw n * 1 ≤ pw n * val ((cs.drop p).drop n) := Nat.mul_le_mul_left _ z
      omega
  · exact (vl_ge _ _ k).symm
/-- what a turned stretch makes of the whole number -/
theorem val_split3 (cs : List Nat) (p n : Nat) (h : p + n ≤ cs.length) : val cs = vl cs p + pw p * vs cs p n + pw (p + n) * val (cs.drop (p + n)) := by
  rw [vl_split cs (p + n) h, vl_split_vs]
theorem drop_congr {xs ys : List Nat} (k : Nat) (hl : xs.length = ys.length) (h : ∀ j, k ≤ j → lm xs j = lm ys j) : val (xs.drop k) = val (ys.drop k) := by
  refine val_congr (by simp [hl]) (fun j _ => ?_)
  rw [lm_drop, lm_drop]; exact h _ (by omega)

/-- one more limb of a number that is multiplied by a power of two -/
theorem shl_step {V P N x h lo hi t : Nat} (hv : V + h * P = N * t) (hx : x * t = lo + 4294967296 * hi) : V + (h + lo) * P + hi * (P * 4294967296) = (N + x * P) * t := by
  have e : x * P * t = (lo + 4294967296 * hi) * P := by rw [← hx]; grind
  rw [Nat.add_mul N, e, ← hv]; grind
/-- one limb of a number that is divided by a power of two -/
theorem shr_limb {N X x y z P t s : Nat} (hN : N = X + P * (x + 4294967296 * (y + 4294967296 * z))) (hX : X < P) (hts : t * s = 4294967296) : (N / t) / P % 4294967296 = (x + 4294967296 * y) / t % 4294967296 := by
  have hs : 0 < s := Nat.pos_of_ne_zero (fun h => by rw [h] at hts; omega)
  have ht : 0 < t := Nat.pos_of_ne_zero (fun h => by rw [h] at hts; omega)
  have hP : 0 < P := by omega
  rw [Nat.div_div_eq_div_mul, Nat.mul_comm t P, ← Nat.div_div_eq_div_mul]
  have e1 : N / P = x + 4294967296 * (y + 4294967296 * z) := by rw [hN, Nat.add_mul_div_left _ _ hP, Nat.div_eq_of_lt hX, Nat.zero_add]
  rw [e1]
  have e2 : x + 4294967296 * (y + 4294967296 * z) = x + 4294967296 * y + t * (4294967296 * (s * z)) := by
    have : 4294967296 * (4294967296 * z) = t * (4294967296 * (s * z)) := by
      have h : t * (4294967296 * (s * z)) = (t * s) * (4294967296 * z) := by grind
      rw [h, hts]
    rw [Nat.mul_add, this]; omega
  rw [e2, Nat.add_mul_div_left _ _ ht, Nat.add_mul_mod_self_left]
theorem mod_pw_succ (N i : Nat) : N % pw (i + 1) = N % pw i + N / pw i % 4294967296 * pw i := by
  rw [pw_succ, Nat.mod_mul, Nat.mul_comm (pw i)]
theorem two_pow_split {p : Nat} (h : p ≤ 32) : 2 ^ p * 2 ^ (32 - p) = 4294967296 := by
  rw [← Nat.pow_add, Nat.add_sub_cancel' h]
end Go.Proofs.YtlgcflapgdkghabDoor
