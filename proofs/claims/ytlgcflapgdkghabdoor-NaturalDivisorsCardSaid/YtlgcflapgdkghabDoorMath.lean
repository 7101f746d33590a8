/- Plain facts on lists of limbs (base 2^32): what a list is worth, the limbs of a number, lists without a high zero. No program here. -/
namespace Go.Proofs.YtlgcflapgdkghabDoor

/-- the number of a list of limbs, the lowest one first -/
def val : List Nat → Nat
  | [] => 0
  | x :: xs => x + 4294967296 * val xs

/-- limb i, 0 beyond the end -/
def lm (xs : List Nat) (i : Nat) : Nat := xs.getD i 0

/-- powers of the base -/
def pw (i : Nat) : Nat := 4294967296 ^ i
theorem pw_zero : pw 0 = 1 := rfl
theorem pw_succ (i : Nat) : pw (i + 1) = pw i * 4294967296 := by unfold pw; exact Nat.pow_succ ..
theorem pw_pos (i : Nat) : 0 < pw i := by unfold pw; exact Nat.pow_pos (by omega)
theorem pw_add (i j : Nat) : pw (i + j) = pw i * pw j := by unfold pw; exact Nat.pow_add ..
theorem pw_mono {i j : Nat} (h : i ≤ j) : pw i ≤ pw j := by unfold pw; exact Nat.pow_le_pow_right (by omega) h

/-- all limbs are below the base -/
def Lims (xs : List Nat) : Prop := ∀ i, lm xs i < 4294967296

/-- the number of the first i limbs -/
def vl (xs : List Nat) : Nat → Nat
  | 0 => 0
  | i + 1 => vl xs i + lm xs i * pw i

theorem lm_nil (i : Nat) : lm [] i = 0 := by simp [lm]
theorem lm_cons_zero (x : Nat) (xs : List Nat) : lm (x :: xs) 0 = x := rfl
theorem lm_cons_succ (x : Nat) (xs : List Nat) (i : Nat) : lm (x :: xs) (i + 1) = lm xs i := rfl
theorem lm_ge (xs : List Nat) (i : Nat) (h : xs.length ≤ i) : lm xs i = 0 := by
  simp [lm, List.getD, List.getElem?_eq_none h]
theorem lm_get (xs : List Nat) (i : Nat) (h : i < xs.length) : lm xs i = xs[i] := by
  simp [lm, List.getD, h]
theorem lm_set (xs : List Nat) (j x i : Nat) (h : j < xs.length) : lm (xs.set j x) i = if i = j then x else lm xs i := by
  unfold lm
  simp only [List.getD, List.getElem?_set]
  by_cases e : j = i
  · subst e; simp [h]
  · rw [if_neg e, if_neg (fun q => e q.symm)]
theorem lm_take (xs : List Nat) (k i : Nat) : lm (xs.take k) i = if i < k then lm xs i else 0 := by
  unfold lm
  simp only [List.getD, List.getElem?_take]
  split <;> simp
theorem lm_drop (xs : List Nat) (k i : Nat) : lm (xs.drop k) i = lm xs (k + i) := by
  unfold lm; simp [List.getD, List.getElem?_drop]
theorem lm_replicate (n i : Nat) : lm (List.replicate n 0) i = 0 := by
  unfold lm; simp only [List.getD, List.getElem?_replicate]; split <;> rfl
theorem lm_append (xs ys : List Nat) (i : Nat) : lm (xs ++ ys) i = if i < xs.length then lm xs i else lm ys (i - xs.length) := by
  unfold lm
  simp only [List.getD]
  by_cases h : i < xs.length
  · rw [if_pos h, List.getElem?_append_left h]
  · rw [if_neg h, List.getElem?_append_right (by omega)]

theorem lims_nil : Lims [] := fun i => by rw [lm_nil]; omega
theorem lims_set {xs : List Nat} (h : Lims xs) (j x : Nat) (hx : x < 4294967296) : Lims (xs.set j x) := by
  intro i
  by_cases hj : j < xs.length
  · rw [lm_set xs j x i hj]; split
    · exact hx
    · exact h i
  · rw [List.set_eq_of_length_le (by omega)]; exact h i
theorem lims_take {xs : List Nat} (h : Lims xs) (k : Nat) : Lims (xs.take k) := by
  intro i; rw [lm_take]; split
  · exact h i
  · omega
theorem lims_drop {xs : List Nat} (h : Lims xs) (k : Nat) : Lims (xs.drop k) := by
  intro i; rw [lm_drop]; exact h _
theorem lims_replicate (n : Nat) : Lims (List.replicate n 0) := fun i => by rw [lm_replicate]; omega
theorem lims_cons {x : Nat} {xs : List Nat} (hx : x < 4294967296) (h : Lims xs) : Lims (x :: xs) := by
  intro i
  cases i with
  | zero => exact hx
  | succ i => exact h i
theorem lims_tail {x : Nat} {xs : List Nat} (h : Lims (x :: xs)) : Lims xs := fun i => h (i + 1)
theorem lims_append {xs ys : List Nat} (hx : Lims xs) (hy : Lims ys) : Lims (xs ++ ys) := by
  intro i; rw [lm_append]; split
  · exact hx i
  · exact hy _

/-- step by step from above, too -/
theorem vl_cons (x : Nat) (xs : List Nat) (i : Nat) : vl (x :: xs) (i + 1) = x + 4294967296 * vl xs i := by
  induction i with
  | zero => simp [vl, lm_cons_zero, pw_zero]
  | succ i ih =>
    rw [vl, ih, lm_cons_succ, vl, pw_succ]
    grind

theorem vl_all (xs : List Nat) : vl xs xs.length = val xs := by
  induction xs with
  | nil => rfl
  | cons x xs ih => rw [List.length_cons, vl_cons, ih, val]
theorem vl_ge (xs : List Nat) (i : Nat) (h : xs.length ≤ i) : vl xs i = val xs := by
  induction i with
  | zero =>
    have : xs = [] := List.eq_nil_of_length_eq_zero (by omega)
    subst this; rfl
  | succ i ih =>
    by_cases e : xs.length = i + 1
    · rw [← e]; exact vl_all xs
    · rw [vl, ih (by omega), lm_ge xs i (by omega)]; omega
theorem vl_lt {xs : List Nat} (h : Lims xs) (i : Nat) : vl xs i < pw i := by
  induction i with
  | zero => exact pw_pos 0
  | succ i ih =>
    rw [vl, pw_succ]
    have h1 := h i
    have h2 : lm xs i * pw i ≤ 4294967295 * pw i := Nat.mul_le_mul_right _ (by omega)
    omega
theorem val_lt {xs : List Nat} (h : Lims xs) : val xs < pw xs.length := by rw [← vl_all]; exact vl_lt h _
/-- only the limbs count -/
theorem vl_congr (xs ys : List Nat) (i : Nat) (h : ∀ j, j < i → lm xs j = lm ys j) : vl xs i = vl ys i := by
  induction i with
  | zero => rfl
  | succ i ih => rw [vl, vl, ih (fun j hj => h j (by omega)), h i (by omega)]
theorem vl_set_ge (xs : List Nat) (j x i : Nat) (h : i ≤ j) : vl (xs.set j x) i = vl xs i := by
  by_cases hj : j < xs.length
  · exact vl_congr _ _ _ (fun k hk => by rw [lm_set xs j x k hj, if_neg (by omega)])
  · rw [List.set_eq_of_length_le (by omega)]
theorem vl_take (xs : List Nat) (k i : Nat) (h : i ≤ k) : vl (xs.take k) i = vl xs i :=
  vl_congr _ _ _ (fun j hj => by rw [lm_take, if_pos (by omega)])
theorem val_take (xs : List Nat) (k : Nat) (h : k ≤ xs.length) : val (xs.take k) = vl xs k := by
  rw [← vl_all, List.length_take, Nat.min_eq_left h]; exact vl_take _ _ _ (Nat.le_refl _)
theorem vl_replicate (n i : Nat) : vl (List.replicate n 0) i = 0 := by
  induction i with
  | zero => rfl
  | succ i ih => rw [vl, ih, lm_replicate]; omega
theorem val_replicate (n : Nat) : val (List.replicate n 0) = 0 := by rw [← vl_all]; exact vl_replicate _ _
theorem val_append (xs ys : List Nat) : val (xs ++ ys) = val xs + pw xs.length * val ys := by
  induction xs with
  | nil => simp [val, pw_zero]
  | cons x xs ih => rw [List.cons_append, val, ih, val, List.length_cons, pw_succ]; grind
/-- the number from place i on -/
theorem vl_split (xs : List Nat) (k : Nat) (h : k ≤ xs.length) : val xs = vl xs k + pw k * val (xs.drop k) := by
  have e := val_append (xs.take k) (xs.drop k)
  rw [List.take_append_drop, val_take xs k h, List.length_take, Nat.min_eq_left h] at e
  exact e

/-- the limbs of a number -/
def dg : Nat → Nat → List Nat
  | 0, _ => []
  | f + 1, n => if n = 0 then [] else n % 4294967296 :: dg f (n / 4294967296)
def dig (n : Nat) : List Nat := dg n n

theorem dg_fuel (f g n : Nat) (hf : n ≤ f) (hg : n ≤ g) : dg f n = dg g n := by
  induction f generalizing g n with
  | zero =>
    have : n = 0 := by omega
    subst this
    cases g <;> simp [dg]
  | succ f ih =>
    cases g with
    | zero =>
      have : n = 0 := by omega
      subst this; simp [dg]
    | succ g =>
      rw [dg, dg]
      by_cases h : n = 0
      · simp [h]
      · rw [if_neg h, if_neg h, ih g _ (by omega) (by omega)]
theorem dig_zero : dig 0 = [] := rfl
theorem dig_pos (n : Nat) (h : 0 < n) : dig n = n % 4294967296 :: dig (n / 4294967296) := by
  unfold dig
  obtain ⟨m, rfl⟩ : ∃ m, n = m + 1 := ⟨n - 1, by omega⟩
  rw [dg, if_neg (by omega), dg_fuel m ((m + 1) / 4294967296) _ (by omega) (by omega)]
theorem val_dig (n : Nat) : val (dig n) = n := by
  induction n using Nat.strongRecOn with
  | _ n ih =>
    by_cases h : n = 0
    · subst h; rfl
    · rw [dig_pos n (by omega), val, ih _ (by omega)]; omega
theorem lims_dig (n : Nat) : Lims (dig n) := by
  induction n using Nat.strongRecOn with
  | _ n ih =>
    by_cases h : n = 0
    · subst h; exact lims_nil
    · rw [dig_pos n (by omega)]; exact lims_cons (by omega) (ih _ (by omega))

/-- no zero limb at the end -/
def Canon (xs : List Nat) : Prop := xs = [] ∨ lm xs (xs.length - 1) ≠ 0
theorem canon_nil : Canon [] := .inl rfl
theorem canon_tail {x : Nat} {xs : List Nat} (h : Canon (x :: xs)) : Canon xs := by
  rcases h with h | h
  · cases h
  · cases xs with
    | nil => exact .inl rfl
    | cons y ys => exact .inr h
theorem canon_dig (n : Nat) : Canon (dig n) := by
  induction n using Nat.strongRecOn with
  | _ n ih =>
    by_cases h : n = 0
    · subst h; exact canon_nil
    · rw [dig_pos n (by omega)]
      right
      rcases ih (n / 4294967296) (by omega) with e | e
      · rw [e]
        have hz : n / 4294967296 = 0 := by have := val_dig (n / 4294967296); rw [e] at this; exact this.symm
        show n % 4294967296 ≠ 0
        omega
      · cases hd : dig (n / 4294967296) with
        | nil =>
          have hz : n / 4294967296 = 0 := by have := val_dig (n / 4294967296); rw [hd] at this; exact this.symm
          show n % 4294967296 ≠ 0
          omega
        | cons y ys => rw [hd] at e; exact e
theorem canon_val_pos {xs : List Nat} (h : Canon xs) (hn : xs ≠ []) : 0 < val xs := by
  induction xs with
  | nil => exact absurd rfl hn
  | cons x xs ih =>
    rw [val]
    cases xs with
    | nil =>
      rcases h with h | h
      · cases h
      · have : x ≠ 0 := h
        omega
    | cons y ys => have := ih (canon_tail h) (by simp); omega
/-- limbs without a high zero are those of their number -/
theorem canon_eq {xs : List Nat} (hl : Lims xs) (hc : Canon xs) : xs = dig (val xs) := by
  induction xs with
  | nil => rfl
  | cons x xs ih =>
    have hp : 0 < val (x :: xs) := canon_val_pos hc (by simp)
    have hx : x < 4294967296 := hl 0
    have ht := ih (lims_tail hl) (canon_tail hc)
    rw [dig_pos _ hp]
    have e1 : val (x :: xs) % 4294967296 = x := by rw [val]; omega
    have e2 : val (x :: xs) / 4294967296 = val xs := by rw [val]; omega
    rw [e1, e2, ← ht]

/-- without the high zeros -/
def sz (xs : List Nat) : Nat → Nat
  | 0 => 0
  | k + 1 => if lm xs k = 0 then sz xs k else k + 1
def trim (xs : List Nat) : List Nat := xs.take (sz xs xs.length)
theorem sz_le (xs : List Nat) (k : Nat) : sz xs k ≤ k := by
  induction k with
  | zero => exact Nat.le_refl _
  | succ k ih => rw [sz]; split <;> omega
theorem sz_zero (xs : List Nat) (k j : Nat) (h : sz xs k ≤ j) (hj : j < k) : lm xs j = 0 := by
  induction k with
  | zero => omega
  | succ k ih =>
    rw [sz] at h
    split at h
    · rename_i e
      by_cases ej : j = k
      · rw [ej]; exact e
      · exact ih h (by omega)
    · omega
theorem sz_top (xs : List Nat) (k : Nat) (h : 0 < sz xs k) : lm xs (sz xs k - 1) ≠ 0 := by
  induction k with
  | zero => simp [sz] at h
  | succ k ih =>
    rw [sz] at h ⊢
    split
    · rename_i e; rw [if_pos e] at h; exact ih h
    · rename_i e; exact e
theorem trim_length (xs : List Nat) : (trim xs).length = sz xs xs.length := by
  rw [trim, List.length_take, Nat.min_eq_left (sz_le _ _)]
theorem trim_length_le (xs : List Nat) : (trim xs).length ≤ xs.length := by rw [trim_length]; exact sz_le _ _
theorem vl_zeros (xs : List Nat) (s k : Nat) (hs : s ≤ k) (h : ∀ j, s ≤ j → j < k → lm xs j = 0) : vl xs k = vl xs s := by
  induction k with
  | zero => rw [show s = 0 by omega]
  | succ k ih =>
    by_cases e : s = k + 1
    · rw [e]
    · rw [vl, h k (by omega) (by omega), ih (by omega) (fun j a b => h j a (by omega))]; omega
theorem val_trim (xs : List Nat) : val (trim xs) = val xs := by
  rw [trim, val_take xs _ (sz_le _ _), ← vl_all xs]
  exact (vl_zeros xs _ _ (sz_le _ _) (fun j a b => sz_zero xs _ j a b)).symm
theorem lims_trim {xs : List Nat} (h : Lims xs) : Lims (trim xs) := lims_take h _
theorem canon_trim (xs : List Nat) : Canon (trim xs) := by
  by_cases h : sz xs xs.length = 0
  · left; rw [trim, h]; rfl
  · right
    rw [trim_length, trim, lm_take, if_pos (by omega)]
    exact sz_top xs _ (by omega)
theorem trim_dig {xs : List Nat} (h : Lims xs) : trim xs = dig (val xs) := by
  rw [canon_eq (lims_trim h) (canon_trim xs), val_trim]
theorem lm_trim (xs : List Nat) (i : Nat) : lm (trim xs) i = lm xs i := by
  rw [trim, lm_take]
  split
  · rfl
  · by_cases h : i < xs.length
    · exact (sz_zero xs _ i (by omega) h).symm
    · exact (lm_ge xs i (by omega)).symm
theorem dig_inj {m n : Nat} (h : dig m = dig n) : m = n := by have := congrArg val h; rwa [val_dig, val_dig] at this
theorem dig_ne_nil {n : Nat} (h : 0 < n) : dig n ≠ [] := by rw [dig_pos n h]; simp
theorem dig_length_pos {n : Nat} (h : 0 < n) : 0 < (dig n).length := by rw [dig_pos n h]; simp
theorem dig_length_le (n k : Nat) (h : n < pw k) : (dig n).length ≤ k := by
  induction k generalizing n with
  | zero => rw [pw_zero] at h; rw [show n = 0 by omega]; exact Nat.le_refl _
  | succ k ih =>
    by_cases e : n = 0
    · subst e; simp [dig_zero]
    · rw [dig_pos n (by omega), List.length_cons]
      rw [pw_succ] at h
      have := ih (n / 4294967296) ((Nat.div_lt_iff_lt_mul (by omega)).2 h)
      omega
theorem dig_length_ge (n k : Nat) (h : pw k ≤ n) : k < (dig n).length := by
  have h1 := val_lt (lims_dig n)
  rw [val_dig] at h1
  rcases Nat.lt_or_ge k (dig n).length with h2 | h2
  · exact h2
  · have := pw_mono h2; omega

/-- the order of two numbers, as Go tells it -/
def cmpn (a b : Nat) : Int := if a < b then -1 else if b < a then 1 else 0
theorem cmpn_lt {a b : Nat} (h : a < b) : cmpn a b = -1 := if_pos h
theorem cmpn_gt {a b : Nat} (h : b < a) : cmpn a b = 1 := (if_neg (by omega)).trans (if_pos h)
theorem cmpn_eq {a b : Nat} (h : a = b) : cmpn a b = 0 := (if_neg (by omega)).trans (if_neg (by omega))
theorem cmpn_neg (a b : Nat) : cmpn b a = - cmpn a b := by unfold cmpn; split <;> split <;> omega
theorem vl_lt_top {xs ys : List Nat} (hx : Lims xs) (k n : Nat) (hk : k < n) (he : ∀ j, k < j → j < n → lm xs j = lm ys j) (hlt : lm xs k < lm ys k) : vl xs n < vl ys n := by
  induction n with
  | zero => omega
  | succ n ih =>
    by_cases e : k = n
    · subst e
      rw [vl, vl]
      have h1 := vl_lt hx k
      have h2 : (lm xs k + 1) * pw k ≤ lm ys k * pw k := Nat.mul_le_mul_right _ (by omega)
      have h3 : (lm xs k + 1) * pw k = lm xs k * pw k + pw k := Nat.succ_mul ..
      have h4 : 0 ≤ vl ys k := Nat.zero_le _
      omega
    · rw [vl, vl, he n (by omega) (by omega)]
      have := ih (by omega) (fun j a b => he j a (by omega))
      omega
theorem val_lt_top {xs ys : List Nat} (hx : Lims xs) (k n : Nat) (h1 : xs.length ≤ n) (h2 : ys.length ≤ n) (hk : k < n) (he : ∀ j, k < j → j < n → lm xs j = lm ys j) (hlt : lm xs k < lm ys k) : val xs < val ys := by
  have := vl_lt_top hx k n hk he hlt
  rwa [vl_ge xs n h1, vl_ge ys n h2] at this
theorem val_eq_all {xs ys : List Nat} (n : Nat) (h1 : xs.length ≤ n) (h2 : ys.length ≤ n) (he : ∀ j, j < n → lm xs j = lm ys j) : val xs = val ys := by
  rw [← vl_ge xs n h1, ← vl_ge ys n h2]; exact vl_congr _ _ _ he

/-- from a place on: the limb there, and the rest -/
theorem val_drop (xs : List Nat) (k : Nat) (h : k < xs.length) : val (xs.drop k) = lm xs k + 4294967296 * val (xs.drop (k + 1)) := by
  rw [List.drop_eq_getElem_cons h, val, lm_get xs k h]
theorem val_drop_ge (xs : List Nat) (k : Nat) (h : xs.length ≤ k) : val (xs.drop k) = 0 := by rw [List.drop_eq_nil_of_le h]; rfl
theorem drop_set_lt (xs : List Nat) (j x k : Nat) (h : j < k) : (xs.set j x).drop k = xs.drop k := List.drop_set_of_lt h
theorem val_congr {xs ys : List Nat} (hl : xs.length = ys.length) (h : ∀ j, j < xs.length → lm xs j = lm ys j) : val xs = val ys := val_eq_all xs.length (Nat.le_refl _) (by omega) h
theorem short_step (X C d r x s q r' : Nat) (h1 : X = d * C + r) (h2 : s = x + r * 4294967296) (h3 : s = d * q + r') : x + 4294967296 * X = d * (q + 4294967296 * C) + r' := by
  subst h1; rw [h2] at h3; grind
theorem quo_lt (s d r x : Nat) (hr : r < d) (hx : x < 4294967296) (hs : s = x + r * 4294967296) : s / d < 4294967296 := by
  rw [Nat.div_lt_iff_lt_mul (by omega)]
  have h1 : (r + 1) * 4294967296 ≤ d * 4294967296 := Nat.mul_le_mul_right _ hr
  omega

theorem dig_mono {m n : Nat} (h : m ≤ n) : (dig m).length ≤ (dig n).length := by
  refine dig_length_le _ _ (Nat.lt_of_le_of_lt h ?_)
  have := val_lt (lims_dig n); rwa [val_dig] at this
theorem dig_length_val {xs : List Nat} (h : Lims xs) : (dig (val xs)).length ≤ xs.length := dig_length_le _ _ (val_lt h)

/-- the number of bits -/
def bl (n : Nat) : Nat := if n = 0 then 0 else n.log2 + 1
theorem bl_zero : bl 0 = 0 := rfl
theorem bl_le {n k : Nat} : bl n ≤ k ↔ n < 2 ^ k := by
  unfold bl
  by_cases h : n = 0
  · subst h; simp [Nat.pow_pos]
  · rw [if_neg h]
    exact Nat.log2_lt h
theorem bl_lt {n k : Nat} : k < bl n ↔ 2 ^ k ≤ n := by
  have := @bl_le n k
  omega
theorem bl_self (n : Nat) : n < 2 ^ bl n := bl_le.1 (Nat.le_refl _)
theorem bl_low {n : Nat} (h : 0 < bl n) : 2 ^ (bl n - 1) ≤ n := bl_lt.1 (by omega)
theorem bl_eq {n k : Nat} (h1 : 2 ^ k ≤ n) (h2 : n < 2 ^ (k + 1)) : bl n = k + 1 := by
  have a := bl_lt.2 h1
  have b := bl_le.2 h2
  omega
theorem bl_pos {n : Nat} (h : 0 < n) : 0 < bl n := bl_lt.2 (by rw [Nat.pow_zero]; exact h)
theorem bl_half {n : Nat} (h : n ≠ 0) : bl n = bl (n / 2) + 1 := by
  unfold bl
  rw [if_neg h, Nat.log2_def]
  by_cases h2 : n ≥ 2
  · rw [if_pos h2, if_neg (by omega)]
  · rw [if_neg h2, if_pos (by omega)]
theorem pw_two (i : Nat) : pw i = 2 ^ (32 * i) := by unfold pw; rw [Nat.pow_mul]
theorem bl_top {t k v : Nat} (ht : 0 < t) (hv : v < pw k) : bl (v + t * pw k) = 32 * k + bl t := by
  have h0 := bl_pos ht
  have h1 := bl_low h0
  have h2 := bl_self t
  obtain ⟨b, hb⟩ : ∃ b, bl t = b + 1 := ⟨bl t - 1, by omega⟩
  rw [hb] at h1 h2 ⊢
  rw [Nat.add_sub_cancel] at h1
  have e : 32 * k + (b + 1) = (32 * k + b) + 1 := by omega
  rw [e]
  apply bl_eq
  · rw [Nat.pow_add, ← pw_two]
    have h3 := Nat.mul_le_mul_right (pw k) h1
    rw [Nat.mul_comm (2 ^ b)] at h3
    omega
  · rw [show 32 * k + b + 1 = 32 * k + (b + 1) by omega, Nat.pow_add, ← pw_two]
    have h3 : (t + 1) * pw k ≤ 2 ^ (b + 1) * pw k := Nat.mul_le_mul_right (pw k) h2
    rw [Nat.succ_mul, Nat.mul_comm (2 ^ (b + 1))] at h3
    omega
theorem bl_trim {xs : List Nat} (hl : Lims xs) (h : 0 < (trim xs).length) : bl (val xs) = 32 * ((trim xs).length - 1) + bl (lm xs ((trim xs).length - 1)) ∧ 0 < lm xs ((trim xs).length - 1) := by
  rcases canon_trim xs with h1 | h1
  · rw [h1] at h; simp at h
  · rw [lm_trim] at h1
    obtain ⟨k, hk⟩ : ∃ k, (trim xs).length = k + 1 := ⟨(trim xs).length - 1, by omega⟩
    have e : val xs = vl xs k + lm xs k * pw k := by
      rw [← val_trim, ← vl_all, hk]
      exact vl_congr _ _ _ (fun j _ => lm_trim xs j)
    rw [hk, Nat.add_sub_cancel] at h1 ⊢
    refine ⟨?_, by omega⟩
    rw [e, bl_top (by omega) (vl_lt hl k)]
theorem bl_val_zero {xs : List Nat} (h : (trim xs).length = 0) : bl (val xs) = 0 := by
  rw [← val_trim, List.eq_nil_of_length_eq_zero h]; rfl
end Go.Proofs.YtlgcflapgdkghabDoor
