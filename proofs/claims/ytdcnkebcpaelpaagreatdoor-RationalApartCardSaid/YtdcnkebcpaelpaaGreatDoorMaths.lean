import Derived.Laws.BitsAllLaws
/- Plain facts on lists of limbs (base 2^32): what a list is worth, the limbs of a number, lists without a high zero. No program here. -/
namespace Go.Proofs.YtdcnkebcpaelpaaGreatDoor

/-- the number of a list of limbs, the lowest one first -/
def val : List Nat → Nat
  | [] => 0
  | x :: xs => x + 4294967296 * val xs

/-- limb i, 0 beyond the end -/
def lm (xs : List Nat) (i : Nat) : Nat := xs.getD i 0

/-- powers of the base -/
def pw (i : Nat) : Nat := 4294967296 ^ i
theorem pw_zero : pw 0 = 1 := rfl
theorem pw_succ (i : Nat) : pw (i + 1) = pw i * 4294967296 := by unfold pw; exact Nat.pow_succ ..
theorem pw_pos (i : Nat) : 0 < pw i := by unfold pw; exact Nat.pow_pos (by omega)
theorem pw_add (i j : Nat) : pw (i + j) = pw i * pw j := by unfold pw; exact Nat.pow_add ..
theorem pw_mono {i j : Nat} (h : i ≤ j) : pw i ≤ pw j := by unfold pw; exact Nat.pow_le_pow_right (by omega) h

/-- all limbs are below the base -/
def Lims (xs : List Nat) : Prop := ∀ i, lm xs i < 4294967296

/-- the number of the first i limbs -/
def vl (xs : List Nat) : Nat → Nat
  | 0 => 0
  | i + 1 => vl xs i + lm xs i * pw i

theorem lm_nil (i : Nat) : lm [] i = 0 := by simp [lm]
theorem lm_cons_zero (x : Nat) (xs : List Nat) : lm (x :: xs) 0 = x := rfl
theorem lm_cons_succ (x : Nat) (xs : List Nat) (i : Nat) : lm (x :: xs) (i + 1) = lm xs i := rfl
theorem lm_ge (xs : List Nat) (i : Nat) (h : xs.length ≤ i) : lm xs i = 0 := by
  simp [lm, List.getD, List.getElem?_eq_none h]
theorem lm_get (xs : List Nat) (i : Nat) (h : i < xs.length) : lm xs i = xs[i] := by
  simp [lm, List.getD, h]
theorem lm_set (xs : List Nat) (j x i : Nat) (h : j < xs.length) : lm (xs.set j x) i = if i = j then x else lm xs i := by
  unfold lm
  simp only [List.getD, List.getElem?_set]
  by_cases e : j = i
  · subst e; simp [h]
  · rw [if_neg e, if_neg (fun q => e q.symm)]
theorem lm_take (xs : List Nat) (k i : Nat) : lm (xs.take k) i = if i < k then lm xs i else 0 := by
  unfold lm
  simp only [List.getD, List.getElem?_take]
  split <;> simp
theorem lm_drop (xs : List Nat) (k i : Nat) : lm (xs.drop k) i = lm xs (k + i) := by
  unfold lm; simp [List.getD, List.getElem?_drop]
theorem lm_replicate (n i : Nat) : lm (List.replicate n 0) i = 0 := by
  unfold lm; simp only [List.getD, List.getElem?_replicate]; split <;> rfl
theorem lm_append (xs ys : List Nat) (i : Nat) : lm (xs ++ ys) i = if i < xs.length then lm xs i else lm ys (i - xs.length) := by
  unfold lm
  simp only [List.getD]
  by_cases h : i < xs.length
  · rw [if_pos h, List.getElem?_append_left h]
  · rw [if_neg h, List.getElem?_append_right (by omega)]

theorem lims_nil : Lims [] := fun i => by rw [lm_nil]; omega
theorem lims_set {xs : List Nat} (h : Lims xs) (j x : Nat) (hx : x < 4294967296) : Lims (xs.set j x) := by
  intro i
  by_cases hj : j < xs.length
  · rw [lm_set xs j x i hj]; split
    · exact hx
    · exact h i
  · rw [List.set_eq_of_length_le (by omega)]; exact h i
theorem lims_take {xs : List Nat} (h : Lims xs) (k : Nat) : Lims (xs.take k) := by
  intro i; rw [lm_take]; split
  · exact h i
  · omega
theorem lims_drop {xs : List Nat} (h : Lims xs) (k : Nat) : Lims (xs.drop k) := by
  intro i; rw [lm_drop]; exact h _
theorem lims_replicate (n : Nat) : Lims (List.replicate n 0) := fun i => by rw [lm_replicate]; omega
theorem lims_cons {x : Nat} {xs : List Nat} (hx : x < 4294967296) (h : Lims xs) : Lims (x :: xs) := by
  intro i
  cases i with
  | zero => exact hx
  | succ i => exact h i
theorem lims_tail {x : Nat} {xs : List Nat} (h : Lims (x :: xs)) : Lims xs := fun i => h (i + 1)
theorem lims_append {xs ys : List Nat} (hx : Lims xs) (hy : Lims ys) : Lims (xs ++ ys) := by
  intro i; rw [lm_append]; split
  · exact hx i
  · exact hy _

/-- step by step from above, too -/
theorem vl_cons (x : Nat) (xs : List Nat) (i : Nat) : vl (x :: xs) (i + 1) = x + 4294967296 * vl xs i := by
  induction i with
  | zero => simp [vl, lm_cons_zero, pw_zero]
  | succ i ih =>
    rw [vl, ih, lm_cons_succ, vl, pw_succ]
    grind

theorem vl_all (xs : List Nat) : vl xs xs.length = val xs := by
  induction xs with
  | nil => rfl
  | cons x xs ih => rw [List.length_cons, vl_cons, ih, val]
theorem vl_ge (xs : List Nat) (i : Nat) (h : xs.length ≤ i) : vl xs i = val xs := by
  induction i with
  | zero =>
    have : xs = [] := List.eq_nil_of_length_eq_zero (by omega)
    subst this; rfl
  | succ i ih =>
    by_cases e : xs.length = i + 1
    · rw [← e]; exact vl_all xs
    · rw [vl, ih (by omega), lm_ge xs i (by omega)]; omega
theorem vl_lt {xs : List Nat} (h : Lims xs) (i : Nat) : vl xs i < pw i := by
  induction i with
  | zero => exact pw_pos 0
  | succ i ih =>
    rw [vl, pw_succ]
    have h1 := h i
    have h2 : lm xs i * pw i ≤ 4294967295 * pw i := Nat.mul_le_mul_right _ (by omega)
    omega
theorem val_lt {xs : List Nat} (h : Lims xs) : val xs < pw xs.length := by rw [← vl_all]; exact vl_lt h _
/-- only the limbs count -/
theorem vl_congr (xs ys : List Nat) (i : Nat) (h : ∀ j, j < i → lm xs j = lm ys j) : vl xs i = vl ys i := by
  induction i with
  | zero => rfl
  | succ i ih => rw [vl, vl, ih (fun j hj => h j (by omega)), h i (by omega)]
theorem vl_set_ge (xs : List Nat) (j x i : Nat) (h : i ≤ j) : vl (xs.set j x) i = vl xs i := by
  by_cases hj : j < xs.length
  · exact vl_congr _ _ _ (fun k hk => by rw [lm_set xs j x k hj, if_neg (by omega)])
  · rw [List.set_eq_of_length_le (by omega)]
theorem vl_take (xs : List Nat) (k i : Nat) (h : i ≤ k) : vl (xs.take k) i = vl xs i :=
  vl_congr _ _ _ (fun j hj => by rw [lm_take, if_pos (by omega)])
theorem val_take (xs : List Nat) (k : Nat) (h : k ≤ xs.length) : val (xs.take k) = vl xs k := by
  rw [← vl_all, List.length_take, Nat.min_eq_left h]; exact vl_take _ _ _ (Nat.le_refl _)
theorem vl_replicate (n i : Nat) : vl (List.replicate n 0) i = 0 := by
  induction i with
  | zero => rfl
  | succ i ih => rw [vl, ih, lm_replicate]; omega
theorem val_replicate (n : Nat) : val (List.replicate n 0) = 0 := by rw [← vl_all]; exact vl_replicate _ _
theorem val_append (xs ys : List Nat) : val (xs ++ ys) = val xs + pw xs.length * val ys := by
  induction xs with
  | nil => simp [val, pw_zero]
  | cons x xs ih => rw [List.cons_append, val, ih, val, List.length_cons, pw_succ]; grind
/-- the number from place i on -/
theorem vl_split (xs : List Nat) (k : Nat) (h : k ≤ xs.length) : val xs = vl xs k + pw k * val (xs.drop k) := by
  have e := val_append (xs.take k) (xs.drop k)
  rw [List.take_append_drop, val_take xs k h, List.length_take, Nat.min_eq_left h] at e
  exact e

/-- the limbs of a number -/
def dg : Nat → Nat → List Nat
  | 0, _ => []
  | f + 1, n => if n = 0 then [] else n % 4294967296 :: dg f (n / 4294967296)
def dig (n : Nat) : List Nat := dg n n

theorem dg_fuel (f g n : Nat) (hf : n ≤ f) (hg : n ≤ g) : dg f n = dg g n := by
  induction f generalizing g n with
  | zero =>
    have : n = 0 := by omega
    subst this
    cases g <;> simp [dg]
  | succ f ih =>
    cases g with
    | zero =>
      have : n = 0 := by omega
      subst this; simp [dg]
    | succ g =>
      rw [dg, dg]
      by_cases h : n = 0
      · simp [h]
      · rw [if_neg h, if_neg h, ih g _ (by omega) (by omega)]
theorem dig_zero : dig 0 = [] := rfl
theorem dig_pos (n : Nat) (h : 0 < n) : dig n = n % 4294967296 :: dig (n / 4294967296) := by
  unfold dig
  obtain ⟨m, rfl⟩ : ∃ m, n = m + 1 := ⟨n - 1, by omega⟩
  rw [dg, if_neg (by omega), dg_fuel m ((m + 1) / 4294967296) _ (by omega) (by omega)]
theorem val_dig (n : Nat) : val (dig n) = n := by
  induction n using Nat.strongRecOn with
  | _ n ih =>
    by_cases h : n = 0
    · subst h; rfl
    · rw [dig_pos n (by omega), val, ih _ (by omega)]; omega
theorem lims_dig (n : Nat) : Lims (dig n) := by
  induction n using Nat.strongRecOn with
  | _ n ih =>
    by_cases h : n = 0
    · subst h; exact lims_nil
    · rw [dig_pos n (by omega)]; exact lims_cons (by omega) (ih _ (by omega))

/-- no zero limb at the end -/
def Canon (xs : List Nat) : Prop := xs = [] ∨ lm xs (xs.length - 1) ≠ 0
theorem canon_nil : Canon [] := .inl rfl
theorem canon_tail {x : Nat} {xs : List Nat} (h : Canon (x :: xs)) : Canon xs := by
  rcases h with h | h
  · cases h
  · cases xs with
    | nil => exact .inl rfl
    | cons y ys => exact .inr h
theorem canon_dig (n : Nat) : Canon (dig n) := by
  induction n using Nat.strongRecOn with
  | _ n ih =>
    by_cases h : n = 0
    · subst h; exact canon_nil
    · rw [dig_pos n (by omega)]
      right
      rcases ih (n / 4294967296) (by omega) with e | e
      · rw [e]
        have hz : n / 4294967296 = 0 := by have := val_dig (n / 4294967296); rw [e] at this; exact this.symm
        show n % 4294967296 ≠ 0
        omega
      · cases hd : dig (n / 4294967296) with
        | nil =>
          have hz : n / 4294967296 = 0 := by have := val_dig (n / 4294967296); rw [hd] at this; exact this.symm
          show n % 4294967296 ≠ 0
          omega
        | cons y ys => rw [hd] at e; exact e
theorem canon_val_pos {xs : List Nat} (h : Canon xs) (hn : xs ≠ []) : 0 < val xs := by
  induction xs with
  | nil => exact absurd rfl hn
  | cons x xs ih =>
    rw [val]
    cases xs with
    | nil =>
      rcases h with h | h
      · cases h
      · have : x ≠ 0 := h
        omega
    | cons y ys => have := ih (canon_tail h) (by simp); omega
/-- limbs without a high zero are those of their number -/
theorem canon_eq {xs : List Nat} (hl : Lims xs) (hc : Canon xs) : xs = dig (val xs) := by
  induction xs with
  | nil => rfl
  | cons x xs ih =>
    have hp : 0 < val (x :: xs) := canon_val_pos hc (by simp)
    have hx : x < 4294967296 := hl 0
    have ht := ih (lims_tail hl) (canon_tail hc)
    rw [dig_pos _ hp]
    have e1 : val (x :: xs) % 4294967296 = x := by rw [val]; omega
    have e2 : val (x :: xs) / 4294967296 = val xs := by rw [val]; omega
    rw [e1, e2, ← ht]

/-- without the high zeros -/
def sz (xs : List Nat) : Nat → Nat
  | 0 => 0
  | k + 1 => if lm xs k = 0 then sz xs k else k + 1
def trim (xs : List Nat) : List Nat := xs.take (sz xs xs.length)
theorem sz_le (xs : List Nat) (k : Nat) : sz xs k ≤ k := by
  induction k with
  | zero => exact Nat.le_refl _
  | succ k ih => rw [sz]; split <;> omega
theorem sz_zero (xs : List Nat) (k j : Nat) (h : sz xs k ≤ j) (hj : j < k) : lm xs j = 0 := by
  induction k with
  | zero => omega
  | succ k ih =>
    rw [sz] at h
    split at h
    · rename_i e
      by_cases ej : j = k
      · rw [ej]; exact e
      · exact ih h (by omega)
    · omega
theorem sz_top (xs : List Nat) (k : Nat) (h : 0 < sz xs k) : lm xs (sz xs k - 1) ≠ 0 := by
  induction k with
  | zero => simp [sz] at h
  | succ k ih =>
    rw [sz] at h ⊢
    split
    · rename_i e; rw [if_pos e] at h; exact ih h
    · rename_i e; exact e
theorem trim_length (xs : List Nat) : (trim xs).length = sz xs xs.length := by
  rw [trim, List.length_take, Nat.min_eq_left (sz_le _ _)]
theorem trim_length_le (xs : List Nat) : (trim xs).length ≤ xs.length := by rw [trim_length]; exact sz_le _ _
theorem vl_zeros (xs : List Nat) (s k : Nat) (hs : s ≤ k) (h : ∀ j, s ≤ j → j < k → lm xs j = 0) : vl xs k = vl xs s := by
  induction k with
  | zero => rw [show s = 0 by omega]
  | succ k ih =>
    by_cases e : s = k + 1
    · rw [e]
    · rw [vl, h k (by omega) (by omega), ih (by omega) (fun j a b => h j a (by omega))]; omega
theorem val_trim (xs : List Nat) : val (trim xs) = val xs := by
  rw [trim, val_take xs _ (sz_le _ _), ← vl_all xs]
  exact (vl_zeros xs _ _ (sz_le _ _) (fun j a b => sz_zero xs _ j a b)).symm
theorem lims_trim {xs : List Nat} (h : Lims xs) : Lims (trim xs) := lims_take h _
theorem canon_trim (xs : List Nat) : Canon (trim xs) := by
  by_cases h : sz xs xs.length = 0
  · left; rw [trim, h]; rfl
  · right
    rw [trim_length, trim, lm_take, if_pos (by omega)]
    exact sz_top xs _ (by omega)
theorem trim_dig {xs : List Nat} (h : Lims xs) : trim xs = dig (val xs) := by
  rw [canon_eq (lims_trim h) (canon_trim xs), val_trim]
theorem lm_trim (xs : List Nat) (i : Nat) : lm (trim xs) i = lm xs i := by
  rw [trim, lm_take]
  split
  · rfl
  · by_cases h : i < xs.length
    · exact (sz_zero xs _ i (by omega) h).symm
    · exact (lm_ge xs i (by omega)).symm
theorem dig_inj {m n : Nat} (h : dig m = dig n) : m = n := by have := congrArg val h; rwa [val_dig, val_dig] at this
theorem dig_ne_nil {n : Nat} (h : 0 < n) : dig n ≠ [] := by rw [dig_pos n h]; simp
theorem dig_length_pos {n : Nat} (h : 0 < n) : 0 < (dig n).length := by rw [dig_pos n h]; simp
theorem dig_length_le (n k : Nat) (h : n < pw k) : (dig n).length ≤ k := by
  induction k generalizing n with
  | zero => rw [pw_zero] at h; rw [show n = 0 by omega]; exact Nat.le_refl _
  | succ k ih =>
    by_cases e : n = 0
    · subst e; simp [dig_zero]
    · rw [dig_pos n (by omega), List.length_cons]
      rw [pw_succ] at h
      have := ih (n / 4294967296) ((Nat.div_lt_iff_lt_mul (by omega)).2 h)
      omega
theorem dig_length_ge (n k : Nat) (h : pw k ≤ n) : k < (dig n).length := by
  have h1 := val_lt (lims_dig n)
  rw [val_dig] at h1
  rcases Nat.lt_or_ge k (dig n).length with h2 | h2
  · exact h2
  · have := pw_mono h2; omega

/-- the order of two numbers, as Go tells it -/
def cmpn (a b : Nat) : Int := if a < b then -1 else if b < a then 1 else 0
theorem cmpn_lt {a b : Nat} (h : a < b) : cmpn a b = -1 := if_pos h
theorem cmpn_gt {a b : Nat} (h : b < a) : cmpn a b = 1 := (if_neg (by omega)).trans (if_pos h)
theorem cmpn_eq {a b : Nat} (h : a = b) : cmpn a b = 0 := (if_neg (by omega)).trans (if_neg (by omega))
theorem cmpn_neg (a b : Nat) : cmpn b a = - cmpn a b := by unfold cmpn; split <;> split <;> omega
theorem vl_lt_top {xs ys : List Nat} (hx : Lims xs) (k n : Nat) (hk : k < n) (he : ∀ j, k < j → j < n → lm xs j = lm ys j) (hlt : lm xs k < lm ys k) : vl xs n < vl ys n := by
  induction n with
  | zero => omega
  | succ n ih =>
    by_cases e : k = n
    · subst e
      rw [vl, vl]
      have h1 := vl_lt hx k
      have h2 : (lm xs k + 1) * pw k ≤ lm ys k * pw k := Nat.mul_le_mul_right _ (by omega)
      have h3 : (lm xs k + 1) * pw k = lm xs k * pw k + pw k := Nat.succ_mul ..
      have h4 : 0 ≤ vl ys k := Nat.zero_le _
      omega
    · rw [vl, vl, he n (by omega) (by omega)]
      have := ih (by omega) (fun j a b => he j a (by omega))
      omega
theorem val_lt_top {xs ys : List Nat} (hx : Lims xs) (k n : Nat) (h1 : xs.length ≤ n) (h2 : ys.length ≤ n) (hk : k < n) (he : ∀ j, k < j → j < n → lm xs j = lm ys j) (hlt : lm xs k < lm ys k) : val xs < val ys := by
  have := vl_lt_top hx k n hk he hlt
  rwa [vl_ge xs n h1, vl_ge ys n h2] at this
theorem val_eq_all {xs ys : List Nat} (n : Nat) (h1 : xs.length ≤ n) (h2 : ys.length ≤ n) (he : ∀ j, j < n → lm xs j = lm ys j) : val xs = val ys := by
  rw [← vl_ge xs n h1, ← vl_ge ys n h2]; exact vl_congr _ _ _ he

/-- from a place on: the limb there, and the rest -/
theorem val_drop (xs : List Nat) (k : Nat) (h : k < xs.length) : val (xs.drop k) = lm xs k + 4294967296 * val (xs.drop (k + 1)) := by
  rw [List.drop_eq_getElem_cons h, val, lm_get xs k h]
theorem val_drop_ge (xs : List Nat) (k : Nat) (h : xs.length ≤ k) : val (xs.drop k) = 0 := by rw [List.drop_eq_nil_of_le h]; rfl
theorem drop_set_lt (xs : List Nat) (j x k : Nat) (h : j < k) : (xs.set j x).drop k = xs.drop k := List.drop_set_of_lt h
theorem val_congr {xs ys : List Nat} (hl : xs.length = ys.length) (h : ∀ j, j < xs.length → lm xs j = lm ys j) : val xs = val ys := val_eq_all xs.length (Nat.le_refl _) (by omega) h
theorem short_step (X C d r x s q r' : Nat) (h1 : X = d * C + r) (h2 : s = x + r * 4294967296) (h3 : s = d * q + r') : x + 4294967296 * X = d * (q + 4294967296 * C) + r' := by
  subst h1; rw [h2] at h3; grind
theorem quo_lt (s d r x : Nat) (hr : r < d) (hx : x < 4294967296) (hs : s = x + r * 4294967296) : s / d < 4294967296 := by
  rw [Nat.div_lt_iff_lt_mul (by omega)]
  have h1 : (r + 1) * 4294967296 ≤ d * 4294967296 := Nat.mul_le_mul_right _ hr
  omega

theorem dig_mono {m n : Nat} (h : m ≤ n) : (dig m).length ≤ (dig n).length := by
  refine dig_length_le _ _ (Nat.lt_of_le_of_lt h ?_)
  have := val_lt (lims_dig n); rwa [val_dig] at this
theorem dig_length_val {xs : List Nat} (h : Lims xs) : (dig (val xs)).length ≤ xs.length := dig_length_le _ _ (val_lt h)

/-- the number of bits -/
def bl (n : Nat) : Nat := if n = 0 then 0 else n.log2 + 1
theorem bl_zero : bl 0 = 0 := rfl
theorem bl_le {n k : Nat} : bl n ≤ k ↔ n < 2 ^ k := by
  unfold bl
  by_cases h : n = 0
  · subst h; simp [Nat.pow_pos]
  · rw [if_neg h]
    exact Nat.log2_lt h
theorem bl_lt {n k : Nat} : k < bl n ↔ 2 ^ k ≤ n := by
  have := @bl_le n k
  omega
theorem bl_self (n : Nat) : n < 2 ^ bl n := bl_le.1 (Nat.le_refl _)
theorem bl_low {n : Nat} (h : 0 < bl n) : 2 ^ (bl n - 1) ≤ n := bl_lt.1 (by omega)
theorem bl_eq {n k : Nat} (h1 : 2 ^ k ≤ n) (h2 : n < 2 ^ (k + 1)) : bl n = k + 1 := by
  have a := bl_lt.2 h1
  have b := bl_le.2 h2
  omega
theorem bl_pos {n : Nat} (h : 0 < n) : 0 < bl n := bl_lt.2 (by rw [Nat.pow_zero]; exact h)
theorem bl_half {n : Nat} (h : n ≠ 0) : bl n = bl (n / 2) + 1 := by
  unfold bl
  rw [if_neg h, Nat.log2_def]
  by_cases h2 : n ≥ 2
  · rw [if_pos h2, if_neg (by omega)]
  · rw [if_neg h2, if_pos (by omega)]
theorem pw_two (i : Nat) : pw i = 2 ^ (32 * i) := by unfold pw; rw [Nat.pow_mul]
theorem bl_top {t k v : Nat} (ht : 0 < t) (hv : v < pw k) : bl (v + t * pw k) = 32 * k + bl t := by
  have h0 := bl_pos ht
  have h1 := bl_low h0
  have h2 := bl_self t
  obtain ⟨b, hb⟩ : ∃ b, bl t = b + 1 := ⟨bl t - 1, by omega⟩
  rw [hb] at h1 h2 ⊢
  rw [Nat.add_sub_cancel] at h1
  have e : 32 * k + (b + 1) = (32 * k + b) + 1 := by omega
  rw [e]
  apply bl_eq
  · rw [Nat.pow_add, ← pw_two]
    have h3 := Nat.mul_le_mul_right (pw k) h1
    rw [Nat.mul_comm (2 ^ b)] at h3
    omega
  · rw [show 32 * k + b + 1 = 32 * k + (b + 1) by omega, Nat.pow_add, ← pw_two]
    have h3 : (t + 1) * pw k ≤ 2 ^ (b + 1) * pw k := Nat.mul_le_mul_right (pw k) h2
    rw [Nat.succ_mul, Nat.mul_comm (2 ^ (b + 1))] at h3
    omega
theorem bl_trim {xs : List Nat} (hl : Lims xs) (h : 0 < (trim xs).length) : bl (val xs) = 32 * ((trim xs).length - 1) + bl (lm xs ((trim xs).length - 1)) ∧ 0 < lm xs ((trim xs).length - 1) := by
  rcases canon_trim xs with h1 | h1
  · rw [h1] at h; simp at h
  · rw [lm_trim] at h1
    obtain ⟨k, hk⟩ : ∃ k, (trim xs).length = k + 1 := ⟨(trim xs).length - 1, by omega⟩
    have e : val xs = vl xs k + lm xs k * pw k := by
      rw [← val_trim, ← vl_all, hk]
      exact vl_congr _ _ _ (fun j _ => lm_trim xs j)
    rw [hk, Nat.add_sub_cancel] at h1 ⊢
    refine ⟨?_, by omega⟩
    rw [e, bl_top (by omega) (vl_lt hl k)]
theorem bl_val_zero {xs : List Nat} (h : (trim xs).length = 0) : bl (val xs) = 0 := by
  rw [← val_trim, List.eq_nil_of_length_eq_zero h]; rfl
end Go.Proofs.YtdcnkebcpaelpaaGreatDoor
/- Plain facts on a stretch of limbs within a longer list. -/
namespace Go.Proofs.YtdcnkebcpaelpaaGreatDoor

/-- the number of the m limbs from place o on -/
def vs (cs : List Nat) (o : Nat) : Nat → Nat
  | 0 => 0
  | i + 1 => vs cs o i + lm cs (o + i) * pw i
theorem vs_zero (cs : List Nat) (i : Nat) : vs cs 0 i = vl cs i := by
  induction i with
  | zero => rfl
  | succ i ih => rw [vs, vl, ih, Nat.zero_add]
theorem vs_congr (xs ys : List Nat) (o i : Nat) (h : ∀ j, j < i → lm xs (o + j) = lm ys (o + j)) : vs xs o i = vs ys o i := by
  induction i with
  | zero => rfl
  | succ i ih => rw [vs, vs, ih (fun j hj => h j (by omega)), h i (by omega)]
theorem vs_drop (cs : List Nat) (o i : Nat) : vs cs o i = vl (cs.drop o) i := by
  induction i with
  | zero => rfl
  | succ i ih => rw [vs, vl, ih, lm_drop]
theorem vs_set_ge (xs : List Nat) (o j x i : Nat) (h : o + i ≤ j) : vs (xs.set j x) o i = vs xs o i := by
  by_cases hj : j < xs.length
  · exact vs_congr _ _ _ _ (fun k hk => by rw [lm_set xs j x _ hj, if_neg (by omega)])
  · rw [List.set_eq_of_length_le (by omega)]
theorem vs_lt {xs : List Nat} (h : Lims xs) (o i : Nat) : vs xs o i < pw i := by rw [vs_drop]; exact vl_lt (lims_drop h o) i
theorem vs_split (cs : List Nat) (o i j : Nat) : vs cs o (i + j) = vs cs o i + pw i * vs cs (o + i) j := by
  induction j with
  | zero => simp [vs]
  | succ j ih =>
    rw [show i + (j + 1) = (i + j) + 1 by omega, vs, ih, vs, pw_add, Nat.add_assoc o i j, Nat.mul_add]
    grind
theorem vl_split_vs (cs : List Nat) (i j : Nat) : vl cs (i + j) = vl cs i + pw i * vs cs i j := by
  have := vs_split cs 0 i j
  rwa [vs_zero, vs_zero, Nat.zero_add] at this

/-- one limb of a sum with a multiple -/
theorem mul_step (V N T f n t c P d c' : Nat) (h : V + c * P = f * N + T) (h2 : c + (n * f + t) = d + 4294967296 * c') : V + d * P + c' * (P * 4294967296) = f * (N + n * P) + (T + t * P) := by
  have h3 : (c + (n * f + t)) * P = (d + 4294967296 * c') * P := by rw [h2]
  grind
/-- one limb of a difference with a multiple -/
theorem sub_step (V N T f n t c b P p d x b' c' : Nat) (h : V + f * N = T + (b + c) * P) (hp : n * f = p) (h2 : c + p = d + 4294967296 * c') (h3 : t + b' * 4294967296 = x + d + b) :
    V + x * P + f * (N + n * P) = T + t * P + (b' + c') * (P * 4294967296) := by
  have e1 : (c + p) * P = (d + 4294967296 * c') * P := by rw [h2]
  have e2 : (t + b' * 4294967296) * P = (x + d + b) * P := by rw [h3]
  subst hp
  grind
theorem mul_le_limb {n f : Nat} (hn : n < 4294967296) (hf : f < 4294967296) : n * f ≤ 18446744065119617025 := by
  have := Nat.mul_le_mul (Nat.le_of_lt_succ hn : n ≤ 4294967295) (Nat.le_of_lt_succ hf : f ≤ 4294967295)
  omega
end Go.Proofs.YtdcnkebcpaelpaaGreatDoor
/- Plain facts on the long division and on shifts. No program here. -/
namespace Go.Proofs.YtdcnkebcpaelpaaGreatDoor

/-- the digit of the quotient is not above the first guess -/
theorem guess_ge {u v q top high P : Nat} (hh : 0 < high) (hq : q * v ≤ u) (hu : u < (top + 1) * P) (hv : high * P ≤ v) : q ≤ top / high := by
  have h1 : q * high * P ≤ u := Nat.le_trans (by rw [Nat.mul_assoc]; exact Nat.mul_le_mul_left _ hv) hq
  have h3 := Nat.lt_of_mul_lt_mul_right (Nat.lt_of_le_of_lt h1 hu)
  rw [Nat.le_div_iff_mul_le hh]; omega
/-- a guess that is too great for the three highest limbs is too great -/
theorem guess_step {u v q L M P digit high next top third rest : Nat} (hu : u = L + (top * 4294967296 + third) * P) (hL : L < P) (hv : v = M + (high * 4294967296 + next) * P)
    (hr : digit * high + rest = top) (hgt : rest * 4294967296 + third < digit * next) (hq : q * v ≤ u) : q < digit := by
  have h1 : top * 4294967296 + third + 1 ≤ digit * (high * 4294967296 + next) := by
    rw [← hr, Nat.mul_add, ← Nat.mul_assoc, Nat.add_mul]; omega
  have h2 : (top * 4294967296 + third + 1) * P ≤ digit * (high * 4294967296 + next) * P := Nat.mul_le_mul_right _ h1
  have h3 : digit * ((high * 4294967296 + next) * P) ≤ digit * v := Nat.mul_le_mul_left _ (by rw [hv]; exact Nat.le_add_left _ _)
  rw [← Nat.mul_assoc] at h3
  have h4 : (top * 4294967296 + third + 1) * P = (top * 4294967296 + third) * P + P := Nat.succ_mul ..
  have h5 : q * v < digit * v := by omega
  exact Nat.lt_of_mul_lt_mul_right h5
/-- a guess that is not too great for them is at most one too great -/
theorem guess_end {u v L M P digit high next top third rest : Nat} (hu : u = L + (top * 4294967296 + third) * P) (hv : v = M + (high * 4294967296 + next) * P) (hM : M < P) (hh : 0 < high)
    (hr : digit * high + rest = top) (hle : digit * next ≤ rest * 4294967296 + third) (hd : digit < 4294967296) : digit * v ≤ u + v := by
  have h1 : digit * (high * 4294967296 + next) ≤ top * 4294967296 + third := by
    rw [← hr, Nat.mul_add, ← Nat.mul_assoc, Nat.add_mul]; omega
  have h2 : digit * (high * 4294967296 + next) * P ≤ (top * 4294967296 + third) * P := Nat.mul_le_mul_right _ h1
  have h3 : digit * v = digit * M + digit * (high * 4294967296 + next) * P := by rw [hv, Nat.mul_add, Nat.mul_assoc]
  have h4 : digit * M ≤ 4294967296 * P := Nat.mul_le_mul (by omega) (by omega)
  have h5 : 1 * 4294967296 * P ≤ (high * 4294967296 + next) * P := Nat.mul_le_mul_right _ (by omega)
  omega
/-- top below (high + 1) * base -/
theorem top_lt {u v L M P high next top third : Nat} (hu : u = L + (top * 4294967296 + third) * P) (hv : v = M + (high * 4294967296 + next) * P) (hM : M < P) (hn : next < 4294967296) (huv : u < v * 4294967296) : top < (high + 1) * 4294967296 := by
  have h1 : v < (high + 1) * 4294967296 * P := by
    have : (high * 4294967296 + next + 1) * P ≤ (high + 1) * 4294967296 * P := Nat.mul_le_mul_right _ (by omega)
    have h2 : (high * 4294967296 + next + 1) * P = (high * 4294967296 + next) * P + P := Nat.succ_mul ..
    omega
  have h2 : top * 4294967296 * P ≤ u := by rw [hu, Nat.add_mul]; omega
  have h3 : top * 4294967296 * P < (high + 1) * 4294967296 * 4294967296 * P := by
    have e : (high + 1) * 4294967296 * 4294967296 * P = (high + 1) * 4294967296 * P * 4294967296 := by grind
    omega
  have h4 := Nat.lt_of_mul_lt_mul_right h3
  omega
theorem digit_lt {digit high rest top : Nat} (hr : digit * high + rest = top) (ht : top < (high + 1) * 4294967296) (hrest : 4294967296 ≤ rest) : digit < 4294967296 := by
  have h1 : digit * high < 4294967296 * high := by omega
  exact Nat.lt_of_mul_lt_mul_right h1
/-- a guess of base or more is too great -/
theorem quo_lt_base {u v q : Nat} (hq : q * v ≤ u) (huv : u < v * 4294967296) : q < 4294967296 := by
  have h1 : q * v < 4294967296 * v := by omega
  exact Nat.lt_of_mul_lt_mul_right h1
theorem step_rest {digit high rest top : Nat} (hr : digit * high + rest = top) (hd : 0 < digit) : (digit - 1) * high + (rest + high) = top := by
  obtain ⟨d, rfl⟩ : ∃ d, digit = d + 1 := ⟨digit - 1, by omega⟩
  rw [Nat.succ_mul] at hr
  rw [Nat.add_sub_cancel]; omega
theorem quo_of {u v d : Nat} (h1 : u < (d + 1) * v) (h2 : d * v ≤ u) : u / v = d := by
  refine Nat.div_eq_of_lt_le ?_ ?_ <;> omega
/-- the three highest limbs of a stretch of k + 3 -/
theorem vs_top3 (cs : List Nat) (o k : Nat) : vs cs o (k + 3) = vs cs o k + ((lm cs (o + (k + 2)) * 4294967296 + lm cs (o + (k + 1))) * 4294967296 + lm cs (o + k)) * pw k := by
  rw [vs, vs, vs, pw_succ (k + 1), pw_succ k, ← Nat.add_assoc, ← Nat.add_assoc]; grind
theorem vl_top2 (cs : List Nat) (k : Nat) : vl cs (k + 2) = vl cs k + (lm cs (k + 1) * 4294967296 + lm cs k) * pw k := by
  rw [vl, vl, pw_succ]; grind
/-- a stretch within a number below pw, from its place on -/
theorem vs_of_lt {cs : List Nat} {p n : Nat} (h : val (cs.drop p) < pw n) : val (cs.drop p) = vs cs p n := by
  rw [vs_drop]
  rcases Nat.lt_or_ge n (cs.drop p).length with k | k
  · have e := vl_split (cs.drop p) n (by omega)
    rcases Nat.eq_zero_or_pos (val ((cs.drop p).drop n)) with z | z
    · rw [z] at e; omega
    · have : pw n * 1 ≤ pw n * val ((cs.drop p).drop n) := Nat.mul_le_mul_left _ z
      omega
  · exact (vl_ge _ _ k).symm
/-- what a turned stretch makes of the whole number -/
theorem val_split3 (cs : List Nat) (p n : Nat) (h : p + n ≤ cs.length) : val cs = vl cs p + pw p * vs cs p n + pw (p + n) * val (cs.drop (p + n)) := by
  rw [vl_split cs (p + n) h, vl_split_vs]
theorem drop_congr {xs ys : List Nat} (k : Nat) (hl : xs.length = ys.length) (h : ∀ j, k ≤ j → lm xs j = lm ys j) : val (xs.drop k) = val (ys.drop k) := by
  refine val_congr (by simp [hl]) (fun j _ => ?_)
  rw [lm_drop, lm_drop]; exact h _ (by omega)

/-- one more limb of a number that is multiplied by a power of two -/
theorem shl_step {V P N x h lo hi t : Nat} (hv : V + h * P = N * t) (hx : x * t = lo + 4294967296 * hi) : V + (h + lo) * P + hi * (P * 4294967296) = (N + x * P) * t := by
  have e : x * P * t = (lo + 4294967296 * hi) * P := by rw [← hx]; grind
  rw [Nat.add_mul N, e, ← hv]; grind
/-- one limb of a number that is divided by a power of two -/
theorem shr_limb {N X x y z P t s : Nat} (hN : N = X + P * (x + 4294967296 * (y + 4294967296 * z))) (hX : X < P) (hts : t * s = 4294967296) : (N / t) / P % 4294967296 = (x + 4294967296 * y) / t % 4294967296 := by
  have hs : 0 < s := Nat.pos_of_ne_zero (fun h => by rw [h] at hts; omega)
  have ht : 0 < t := Nat.pos_of_ne_zero (fun h => by rw [h] at hts; omega)
  have hP : 0 < P := by omega
  rw [Nat.div_div_eq_div_mul, Nat.mul_comm t P, ← Nat.div_div_eq_div_mul]
  have e1 : N / P = x + 4294967296 * (y + 4294967296 * z) := by rw [hN, Nat.add_mul_div_left _ _ hP, Nat.div_eq_of_lt hX, Nat.zero_add]
  rw [e1]
  have e2 : x + 4294967296 * (y + 4294967296 * z) = x + 4294967296 * y + t * (4294967296 * (s * z)) := by
    have : 4294967296 * (4294967296 * z) = t * (4294967296 * (s * z)) := by
      have h : t * (4294967296 * (s * z)) = (t * s) * (4294967296 * z) := by grind
      rw [h, hts]
    rw [Nat.mul_add, this]; omega
  rw [e2, Nat.add_mul_div_left _ _ ht, Nat.add_mul_mod_self_left]
theorem mod_pw_succ (N i : Nat) : N % pw (i + 1) = N % pw i + N / pw i % 4294967296 * pw i := by
  rw [pw_succ, Nat.mod_mul, Nat.mul_comm (pw i)]
theorem two_pow_split {p : Nat} (h : p ≤ 32) : 2 ^ p * 2 ^ (32 - p) = 4294967296 := by
  rw [← Nat.pow_add, Nat.add_sub_cancel' h]
end Go.Proofs.YtdcnkebcpaelpaaGreatDoor
/- Plain facts on one round of the long division, and its end. No program here. -/
namespace Go.Proofs.YtdcnkebcpaelpaaGreatDoor

theorem val_set (xs : List Nat) (p x : Nat) (h : p < xs.length) : val (xs.set p x) + lm xs p * pw p = val xs + x * pw p := by
  have e1 := val_split3 xs p 1 (by omega)
  have e2 := val_split3 (xs.set p x) p 1 (by rw [List.length_set]; omega)
  have e3 : vs xs p 1 = lm xs p := by simp [vs, pw]
  have e4 : vs (xs.set p x) p 1 = x := by simp [vs, pw, lm_set _ _ _ _ h]
  rw [e3] at e1
  rw [e4, vl_set_ge _ _ _ _ (Nat.le_refl _), drop_set_lt _ _ _ _ (by omega)] at e2
  rw [e1, e2]; grind
/-- the lists of one round: a stretch of the rest is turned, one limb of the quotient is laid -/
theorem div_round {cs cs' qs : List Nat} {p n d D A : Nat} (hl : cs'.length = cs.length) (hpn : p + n ≤ cs.length) (hsame : ∀ j, j < p ∨ p + n ≤ j → lm cs' j = lm cs j) (hv : vs cs' p n + d * D = vs cs p n)
    (hq : p < qs.length) (hz : lm qs p = 0) (hA : val qs * D + val cs = A) : val (qs.set p d) * D + val cs' = A := by
  have e1 := val_split3 cs p n hpn
  have e2 := val_split3 cs' p n (by omega)
  rw [vl_congr cs' cs p (fun j hj => hsame j (by omega)), drop_congr (p + n) hl (fun j hj => hsame j (by omega))] at e2
  have e3 := val_set qs p d hq
  rw [hz, Nat.zero_mul, Nat.add_zero] at e3
  have e4 : pw p * (vs cs' p n + d * D) = pw p * vs cs p n := by rw [hv]
  rw [e3, ← hA, e1, e2, Nat.add_mul, ← e4]; grind
/-- what is above the turned stretch is 0, so the rest is below the divisor -/
theorem div_drop {cs cs' : List Nat} {p n D : Nat} (hl : cs'.length = cs.length) (hpn : p + n ≤ cs.length) (hsame : ∀ j, j < p ∨ p + n ≤ j → lm cs' j = lm cs j) (h : val (cs.drop p) < pw n) (hD : vs cs' p n < D) : val (cs'.drop p) < D := by
  have e1 : val (cs'.drop p) = vs cs' p n := by
    have e2 := vl_split (cs'.drop p) n (by rw [List.length_drop]; omega)
    have e3 := vl_split (cs.drop p) n (by rw [List.length_drop]; omega)
    rw [List.drop_drop] at e2 e3
    rw [drop_congr (p + n) hl (fun j hj => hsame j (by omega))] at e2
    have e4 : val (cs.drop (p + n)) = 0 := by
      rcases Nat.eq_zero_or_pos (val (cs.drop (p + n))) with z | z
      · exact z
      · have : pw n * 1 ≤ pw n * val (cs.drop (p + n)) := Nat.mul_le_mul_left _ z
        omega
    rw [e4, Nat.mul_zero, Nat.add_zero] at e2
    rw [e2, vs_drop]
  rw [e1]; exact hD
/-- the stretch of the next round -/
theorem div_next {cs : List Nat} {p n D : Nat} (hp : p < cs.length) (hD : D < pw n) (h : val (cs.drop (p + 1)) < D) (hx : lm cs p < 4294967296) : val (cs.drop p) < D * 4294967296 ∧ val (cs.drop p) = vs cs p (n + 1) ∧ val (cs.drop p) < pw (n + 1) := by
  have e := val_drop cs p hp
  have h0 : (val (cs.drop (p + 1)) + 1) * 4294967296 ≤ D * 4294967296 := Nat.mul_le_mul_right _ h
  rw [Nat.add_mul, Nat.one_mul, Nat.mul_comm (val (cs.drop (p + 1)))] at h0
  have h1 : val (cs.drop p) < D * 4294967296 := by rw [e]; exact Nat.lt_of_lt_of_le (Nat.add_lt_add_right hx _) (by rw [Nat.add_comm]; exact h0)
  have h2 : val (cs.drop p) < pw (n + 1) := by
    rw [pw_succ]; exact Nat.lt_of_lt_of_le h1 (Nat.mul_le_mul_right _ (Nat.le_of_lt hD))
  exact ⟨h1, vs_of_lt h2, h2⟩
/-- no correction -/
theorem fix_none {V u d D : Nat} {P : Nat} (hv : V + d * D = u + (0 + 0) * P) (hlow : u < (d + 1) * D) : V + d * D = u ∧ V < D := by
  rw [Nat.add_mul] at hlow; omega
/-- one correction: the divisor added back -/
theorem fix_one {V W u d D P c : Nat} (hv : V + d * D = u + (1 + 0) * P) (hV : V < P) (hW : W < P) (hD : D < P) (hle : d * D ≤ u + D) (hb : W + c * P = V + D) : 1 ≤ d ∧ W + (d - 1) * D = u ∧ W < D := by
  have hd : 1 ≤ d := by
    rcases Nat.eq_zero_or_pos d with e | e
    · subst e; omega
    · exact e
  obtain ⟨e, rfl⟩ : ∃ e, d = e + 1 := ⟨d - 1, by omega⟩
  rw [Nat.add_sub_cancel]
  rw [Nat.add_mul] at hv hle
  have hc : c = 1 := by
    rcases Nat.lt_or_ge c 1 with h | h
    · have : c = 0 := by omega
      subst this; omega
    · rcases Nat.lt_or_ge 1 c with h2 | h2
      · have : 2 * P ≤ c * P := Nat.mul_le_mul_right _ h2
        omega
      · omega
  subst hc
  omega
/-- the end: both are multiplied by t -/
theorem div_end {Q R a b t : Nat} (h : Q * (b * t) + R = a * t) (hR : R < b * t) (ht : 0 < t) : Q = a / b ∧ R / t = a % b := by
  have hb : 0 < b := Nat.pos_of_ne_zero (fun e => by subst e; omega)
  have h1 : R = (a - Q * b) * t := by rw [Nat.sub_mul, Nat.mul_assoc]; omega
  have h2 : R / t = a - Q * b := by rw [h1, Nat.mul_div_cancel _ ht]
  have h3 : a - Q * b < b := by
    rw [h1] at hR; exact Nat.lt_of_mul_lt_mul_right hR
  have h4 : Q * b ≤ a := by
    have : Q * b * t ≤ a * t := by rw [Nat.mul_assoc]; omega
    exact Nat.le_of_mul_le_mul_right this ht
  obtain ⟨r, hr⟩ : ∃ r, r = a - Q * b := ⟨_, rfl⟩
  rw [← hr] at h2 h3
  have h5 : a = b * Q + r := by rw [Nat.mul_comm b Q]; omega
  rw [h2, h5]
  exact ⟨by rw [Nat.mul_add_div hb, Nat.div_eq_of_lt h3, Nat.add_zero], by rw [Nat.mul_add_mod, Nat.mod_eq_of_lt h3]⟩
end Go.Proofs.YtdcnkebcpaelpaaGreatDoor
/- Plain facts on the reference's long division. No program here. -/
namespace Go.Proofs.YtdcnkebcpaelpaaGreatDoor
open Go

/-- the quotient's digit is not above the guess, also where the guess is cut to a limb -/
theorem rguess_ge {U V q top high P : Nat} (hh : 0 < high) (hq : q * V ≤ U) (hu : U < (top + 1) * P) (hv : high * P ≤ V) (hUV : U < V * 4294967296) : q ≤ min (top / high) 4294967295 := by
  have h1 := guess_ge hh hq hu hv
  have h2 := quo_lt_base hq hUV
  omega
/-- one limb of the difference with a multiple: the plain numbers -/
theorem rsub_limb {x lo b d t b' : Nat} (hx : x < 4294967296) (hlo : lo < 4294967296) (hb : b ≤ 1) (hd : d = x + 4294967296 - lo - b) (ht : t = d % 4294967296) (hb' : b' = 1 - d / 4294967296) : x + b' * 4294967296 = t + lo + b ∧ b' ≤ 1 ∧ d < 8589934592 ∧ d / 4294967296 ≤ 1 ∧ lo + b ≤ x + 4294967296 := by
  subst hd ht hb'; omega
/-- the highest limb -/
theorem rtop {V0 g D U0 K P x : Nat} (h : V0 + g * D = U0 + K * P) (hK : K ≤ 4294967296) (hx : x < 4294967296) :
    (K ≤ x → V0 + (x - K) * P + g * D = U0 + x * P) ∧ (x < K → x + 4294967296 - K < 4294967296 ∧ V0 + (x + 4294967296 - K) * P + g * D = U0 + x * P + P * 4294967296) := by
  constructor
  · intro hk
    obtain ⟨y, rfl⟩ : ∃ y, x = K + y := ⟨x - K, by omega⟩
    rw [Nat.add_sub_cancel_left, Nat.add_mul]; omega
  · intro hk
    refine ⟨by omega, ?_⟩
    obtain ⟨y, hy⟩ : ∃ y, x + 4294967296 = K + y := ⟨x + 4294967296 - K, by omega⟩
    rw [hy, Nat.add_sub_cancel_left]
    have e : (x + 4294967296) * P = (K + y) * P := by rw [hy]
    rw [Nat.add_mul, Nat.add_mul] at e
    rw [Nat.mul_comm P]; omega
/-- a guess that fits -/
theorem rfit {W g D U q : Nat} (h : W + g * D = U) (hq : U < (q + 1) * D) (hg : q ≤ g) : W < D := by
  have h1 : (q + 1) * D ≤ (g + 1) * D := Nat.mul_le_mul_right _ (by omega)
  have h2 : (g + 1) * D = g * D + D := Nat.succ_mul ..
  omega
/-- a guess that is too great is at least 1 -/
theorem rover_pos {W g D U Q : Nat} (h : W + g * D = U + Q) (hW : W < Q) : 1 ≤ g := by
  rcases Nat.eq_zero_or_pos g with e | e
  · subst e; omega
  · exact e
/-- the divisor added back once -/
theorem rback {W W' c g D U Q : Nat} (h : W + g * D = U + Q) (hW : W < Q) (hD : D < Q) (hb : W' + c * Q = W + D) :
    c ≤ 1 ∧ (c = 1 → W' + (g - 1) * D = U ∧ W' < D) ∧ (c = 0 → W' + (g - 1) * D = U + Q) := by
  have hg := rover_pos h hW
  obtain ⟨k, rfl⟩ : ∃ k, g = k + 1 := ⟨g - 1, by omega⟩
  rw [Nat.succ_mul] at h
  rw [Nat.add_sub_cancel]
  refine ⟨?_, ?_, ?_⟩
  · rcases Nat.lt_or_ge 1 c with e | e
    · have : 2 * Q ≤ c * Q := Nat.mul_le_mul_right _ e
      omega
    · exact e
  · intro e; subst e; omega
  · intro e; subst e; omega
/-- the loop that counts the shift -/
theorem rshift_test {x s : Nat} (hx : 0 < x) (hs : s + bl x ≤ 32) : (x * 2 ^ s % 4294967296 / 2147483648 = 0 ↔ s + bl x < 32) := by
  have h1 := bl_self x
  have h2 : x * 2 ^ s < 2 ^ bl x * 2 ^ s := Nat.mul_lt_mul_of_pos_right h1 (Nat.two_pow_pos s)
  rw [← Nat.pow_add] at h2
  have h3 : 2 ^ (bl x + s) ≤ 2 ^ 32 := Nat.pow_le_pow_right (by omega) (by omega)
  rw [show (2 : Nat) ^ 32 = 4294967296 by rfl] at h3
  rw [Nat.mod_eq_of_lt (by omega)]
  constructor
  · intro h
    rcases Nat.lt_or_ge (s + bl x) 32 with e | e
    · exact e
    · have z := bl_pos hx
      · have h4 := bl_low z
        have h5 : 2 ^ (bl x - 1) * 2 ^ s ≤ x * 2 ^ s := Nat.mul_le_mul_right _ h4
        rw [← Nat.pow_add, show bl x - 1 + s = 31 by omega, show (2 : Nat) ^ 31 = 2147483648 by rfl] at h5
        omega
  · intro h
    have h4 : 2 ^ (bl x + s) ≤ 2 ^ 31 := Nat.pow_le_pow_right (by omega) (by omega)
    rw [show (2 : Nat) ^ 31 = 2147483648 by rfl] at h4
    omega
/-- the shift to the right in place: one limb -/
theorem rshr_limb {x y s : Nat} (hx : x < 4294967296) (hs : s < 32) : x / 2 ^ s ||| (y * 2 ^ (32 - s) % 4294967296) = (x + y * 4294967296) / 2 ^ s % 4294967296 ∧ x / 2 ^ s < 4294967296 := by
  have hp := two_pow_split (show s ≤ 32 by omega)
  have hT := Nat.two_pow_pos s
  have hlt : x / 2 ^ s < 2 ^ (32 - s) := by
    rw [Nat.div_lt_iff_lt_mul hT, Nat.mul_comm, hp]; exact hx
  have hd : 2 ^ (32 - s) ∣ 4294967296 := ⟨2 ^ s, by rw [Nat.mul_comm]; exact hp.symm⟩
  have h3 : y * 2 ^ (32 - s) % 4294967296 % 2 ^ (32 - s) = 0 := by rw [Nat.mod_mod_of_dvd _ hd]; exact Nat.mul_mod_left _ _
  have h4 := nat_join (32 - s) _ (x / 2 ^ s) h3 hlt
  have hle : x / 2 ^ s ≤ x := Nat.div_le_self _ _
  refine ⟨?_, by omega⟩
  have h5 : y * 4294967296 = 2 ^ s * (y * 2 ^ (32 - s)) := by rw [← hp]; grind
  rw [h5, Nat.add_mul_div_left _ _ hT]
  have h6 : (x / 2 ^ s + y * 2 ^ (32 - s)) % 4294967296 = x / 2 ^ s + y * 2 ^ (32 - s) % 4294967296 := by
    obtain ⟨z, hz⟩ := hd
    obtain ⟨k, hk⟩ : ∃ k, k = y % 2 ^ s := ⟨_, rfl⟩
    have e1 : y * 2 ^ (32 - s) % 4294967296 = k * 2 ^ (32 - s) := by
      rw [← hp, Nat.mul_mod_mul_right, hk]
    have hk2 : k < 2 ^ s := by rw [hk]; exact Nat.mod_lt _ hT
    have e2 : (k + 1) * 2 ^ (32 - s) ≤ 2 ^ s * 2 ^ (32 - s) := Nat.mul_le_mul_right _ hk2
    rw [hp, Nat.succ_mul] at e2
    rw [e1, Nat.add_mod, e1, Nat.mod_eq_of_lt (show x / 2 ^ s < 4294967296 by omega), Nat.mod_eq_of_lt (by omega)]
  rw [h6, Nat.or_comm, h4]; exact Nat.add_comm _ _
end Go.Proofs.YtdcnkebcpaelpaaGreatDoor
/- Plain facts on Euclid's algorithm with Lehmer's step. No program here. -/
namespace Go.Proofs.YtdcnkebcpaelpaaGreatDoor

/-- the signs of the cofactors: s tells whether the first pair's number comes first -/
def Rel (s : Bool) (u v x1 x2 y1 y2 U V : Nat) : Prop :=
  if s then u + y1 * V = x1 * U ∧ v + x2 * U = y2 * V ∧ x1 * y2 = x2 * y1 + 1 else u + x1 * U = y1 * V ∧ v + y2 * V = x2 * U ∧ x2 * y1 = x1 * y2 + 1
/-- where Euclid's algorithm on U, V stands: the pair u, v and its cofactors -/
structure LInv (U V u v x1 x2 y1 y2 : Nat) (s : Bool) : Prop where
  rel : Rel s u v x1 x2 y1 y2 U V
  hU : U = y2 * u + y1 * v
  hle : v ≤ u
  y12 : y1 ≤ y2
  y2p : 1 ≤ y2
  x2y : x2 ≤ y2
  x1y : x1 ≤ y1 ∨ (x1 = 1 ∧ y1 = 0 ∧ x2 = 0 ∧ y2 = 1)
  x2p : (y1 = 0 ∧ x1 = 1) ∨ 1 ≤ x2
  lt : U < 18446744073709551616
theorem LInv.start {U V : Nat} (h : V ≤ U) (hU : U < 18446744073709551616) : LInv U V U V 1 0 0 1 true :=
  ⟨by simp [Rel], by omega, h, by omega, by omega, by omega, .inr ⟨rfl, rfl, rfl, rfl⟩, .inl ⟨rfl, rfl⟩, hU⟩
theorem Rel.step {s : Bool} {u v x1 x2 y1 y2 U V q r : Nat} (h : Rel s u v x1 x2 y1 y2 U V) (e : u = v * q + r) : Rel (!s) v r x2 (x1 + q * x2) y2 (y1 + q * y2) U V := by
  subst e
  cases s
  · simp only [Rel, Bool.false_eq_true, if_false, Bool.not_false, if_true] at h ⊢
    obtain ⟨h1, h2, h3⟩ := h
    refine ⟨h2, ?_, by grind⟩
    have e1 : q * (x2 * U) = q * v + q * (y2 * V) := by rw [← h2]; grind
    grind
  · simp only [Rel, Bool.false_eq_true, if_false, Bool.not_true, if_true] at h ⊢
    obtain ⟨h1, h2, h3⟩ := h
    refine ⟨h2, ?_, by grind⟩
    have e1 : q * (y2 * V) = q * v + q * (x2 * U) := by rw [← h2]; grind
    grind
theorem LInv.step {U V u v x1 x2 y1 y2 : Nat} {s : Bool} (h : LInv U V u v x1 x2 y1 y2 s) (hv : 0 < v) : LInv U V v (u % v) x2 (x1 + u / v * x2) y2 (y1 + u / v * y2) (!s) := by
  have hq : 1 ≤ u / v := Nat.div_pos h.hle hv
  have e := (Nat.div_add_mod u v).symm
  have hm := Nat.mod_lt u hv
  obtain ⟨q, hq0⟩ : ∃ q, u / v = q := ⟨_, rfl⟩
  obtain ⟨r, hr0⟩ : ∃ r, u % v = r := ⟨_, rfl⟩
  rw [hq0, hr0] at e
  rw [hq0] at hq ⊢
  rw [hr0] at hm ⊢
  have hqy : 1 * y2 ≤ q * y2 := Nat.mul_le_mul_right _ hq
  have hqx : q * x2 ≤ q * y2 := Nat.mul_le_mul_left _ h.x2y
  refine ⟨h.rel.step e, ?_, by omega, by omega, by have := h.y2p; omega, ?_, .inl ?_, .inr ?_, h.lt⟩
  · rw [h.hU, e]; grind
  · rcases h.x1y with k | ⟨k1, k2, k3, k4⟩
    · omega
    · subst k1 k2 k3 k4; omega
  · exact h.x2y
  · have : 1 * x2 ≤ q * x2 := Nat.mul_le_mul_right _ hq
    rcases h.x2p with ⟨_, k⟩ | k <;> omega
/-- no cofactor exceeds a word -/
theorem LInv.next_lt {U V u v x1 x2 y1 y2 : Nat} {s : Bool} (h : LInv U V u v x1 x2 y1 y2 s) (hv : 0 < v) : y1 + u / v * y2 < 18446744073709551616 ∧ x1 + u / v * x2 ≤ y1 + u / v * y2 ∧ u / v * y2 < 18446744073709551616 ∧ u / v * x2 ≤ u / v * y2 := by
  have k := h.step hv
  have h1 := k.hU
  have h2 : (y1 + u / v * y2) * 1 ≤ (y1 + u / v * y2) * v := Nat.mul_le_mul_left _ hv
  have h3 := k.lt
  have h4 := k.x2y
  have h5 : u / v * x2 ≤ u / v * y2 := Nat.mul_le_mul_left _ h.x2y
  omega
theorem sq_lt {a b : Nat} (h : a * a < b * b) : a < b := by
  rcases Nat.lt_or_ge a b with k | k
  · exact k
  · have := Nat.mul_le_mul k k; omega
theorem LInv.sum_lt {U V u v x1 x2 y1 y2 : Nat} {s : Bool} (h : LInv U V u v x1 x2 y1 y2 s) (hv : y2 ≤ v) : y1 + y2 < 18446744073709551616 ∧ y2 < 4294967296 := by
  have h1 := h.hU
  have h2 : y2 * y2 ≤ y2 * u := Nat.mul_le_mul_left _ (Nat.le_trans hv h.hle)
  have h3 := h.lt
  have h4 : y2 < 4294967296 := sq_lt (by omega)
  have := h.y12
  omega
/-- what Lehmer's step gives on x and y -/
def LOut (x y x0 x1 y0 y1 : Nat) (s : Bool) : Prop :=
  x0 < 4294967296 ∧ x1 < 4294967296 ∧ y0 < 4294967296 ∧ y1 < 4294967296 ∧
    (0 < y0 → ∃ p q, Rel s p q x0 x1 y0 y1 x y ∧ q < p ∧ p ≤ y ∧ q < y)
theorem LOut.start (x y : Nat) (s : Bool) : LOut x y 0 1 0 0 s := ⟨by omega, by omega, by omega, by omega, by omega⟩
theorem comb {s : Bool} {p q x0 x1 y0 y1 x y : Nat} (h : Rel s p q x0 x1 y0 y1 x y) : y = x1 * p + x0 * q := by
  cases s
  · simp only [Rel, Bool.false_eq_true, if_false] at h
    obtain ⟨h1, h2, h3⟩ := h
    have e1 : x1 * (y0 * y) = x1 * p + x1 * (x0 * x) := by rw [← h1]; grind
    have e2 : x0 * (x1 * x) = x0 * q + x0 * (y1 * y) := by rw [← h2]; grind
    have e3 : x1 * y0 * y = x0 * y1 * y + y := by rw [h3]; grind
    grind
  · simp only [Rel, if_true] at h
    obtain ⟨h1, h2, h3⟩ := h
    have e1 : x1 * (x0 * x) = x1 * p + x1 * (y0 * y) := by rw [← h1]; grind
    have e2 : x0 * (y1 * y) = x0 * q + x0 * (x1 * x) := by rw [← h2]; grind
    have e3 : x0 * y1 * y = x1 * y0 * y + y := by rw [h3]; grind
    grind
theorem comb' {s : Bool} {p q x0 x1 y0 y1 x y : Nat} (h : Rel s p q x0 x1 y0 y1 x y) : x = y1 * p + y0 * q := by
  cases s
  · simp only [Rel, Bool.false_eq_true, if_false] at h
    obtain ⟨h1, h2, h3⟩ := h
    have e1 : y1 * (y0 * y) = y1 * p + y1 * (x0 * x) := by rw [← h1]; grind
    have e2 : y0 * (x1 * x) = y0 * q + y0 * (y1 * y) := by rw [← h2]; grind
    have e3 : x1 * y0 * x = x0 * y1 * x + x := by rw [h3]; grind
    grind
  · simp only [Rel, if_true] at h
    obtain ⟨h1, h2, h3⟩ := h
    have e1 : y1 * (x0 * x) = y1 * p + y1 * (y0 * y) := by rw [← h1]; grind
    have e2 : y0 * (y1 * y) = y0 * q + y0 * (x1 * x) := by rw [← h2]; grind
    have e3 : x0 * y1 * x = x1 * y0 * x + x := by rw [h3]; grind
    grind
theorem Rel.gcd {s : Bool} {p q x0 x1 y0 y1 x y : Nat} (h : Rel s p q x0 x1 y0 y1 x y) : Nat.gcd p q = Nat.gcd x y := by
  apply Nat.dvd_antisymm
  · refine Nat.dvd_gcd ?_ ?_
    · rw [comb' h]; exact Nat.dvd_add (Nat.dvd_trans (Nat.gcd_dvd_left p q) (Nat.dvd_mul_left _ _)) (Nat.dvd_trans (Nat.gcd_dvd_right p q) (Nat.dvd_mul_left _ _))
    · rw [comb h]; exact Nat.dvd_add (Nat.dvd_trans (Nat.gcd_dvd_left p q) (Nat.dvd_mul_left _ _)) (Nat.dvd_trans (Nat.gcd_dvd_right p q) (Nat.dvd_mul_left _ _))
  · have dx : ∀ k, Nat.gcd x y ∣ k * x := fun k => Nat.dvd_trans (Nat.gcd_dvd_left x y) (Nat.dvd_mul_left _ _)
    have dy : ∀ k, Nat.gcd x y ∣ k * y := fun k => Nat.dvd_trans (Nat.gcd_dvd_right x y) (Nat.dvd_mul_left _ _)
    cases s
    · simp only [Rel, Bool.false_eq_true, if_false] at h
      obtain ⟨h1, h2, _⟩ := h
      exact Nat.dvd_gcd ((Nat.dvd_add_left (dx x0)).1 (h1 ▸ dy y0)) ((Nat.dvd_add_left (dy y1)).1 (h2 ▸ dx x1))
    · simp only [Rel, if_true] at h
      obtain ⟨h1, h2, _⟩ := h
      exact Nat.dvd_gcd ((Nat.dvd_add_left (dy y0)).1 (h1 ▸ dx x0)) ((Nat.dvd_add_left (dx x1)).1 (h2 ▸ dy y1))
/-- a step that is sure for the leading bits is one for the numbers (Collins) -/
theorem lift_even {U V u v x1 x2 y1 y2 t xr yr : Nat} (h1 : u + y1 * V = x1 * U) (h2 : v + x2 * U = y2 * V) (hx : x2 ≤ y2) (hy2 : 0 < y2) (hv : y2 ≤ v) (hc : y1 + y2 ≤ u - v) (hr : xr < t) (hs : yr < t) :
    ∃ p q, p + y1 * (V * t + yr) = x1 * (U * t + xr) ∧ q + x2 * (U * t + xr) = y2 * (V * t + yr) ∧ q < p := by
  have e1 : u * t + y1 * V * t = x1 * U * t := by rw [← Nat.add_mul, h1]
  have e2 : v * t + x2 * U * t = y2 * V * t := by rw [← Nat.add_mul, h2]
  have a1 : y1 * yr ≤ y1 * t := Nat.mul_le_mul_left _ (by omega)
  have a2 : x2 * xr ≤ y2 * t := Nat.mul_le_mul hx (by omega)
  have a2' : y2 * yr < y2 * t := Nat.mul_lt_mul_of_pos_left hs hy2
  have a3 : y2 * t ≤ v * t := Nat.mul_le_mul_right _ hv
  have a4 : (y1 + y2 + v) * t ≤ u * t := Nat.mul_le_mul_right _ (by omega)
  rw [Nat.add_mul, Nat.add_mul] at a4
  refine ⟨u * t + x1 * xr - y1 * yr, v * t + y2 * yr - x2 * xr, ?_, ?_, ?_⟩
  · rw [Nat.mul_add, Nat.mul_add, ← Nat.mul_assoc, ← Nat.mul_assoc]; omega
  · rw [Nat.mul_add, Nat.mul_add, ← Nat.mul_assoc, ← Nat.mul_assoc]; omega
  · omega
theorem lift_odd {U V u v x1 x2 y1 y2 t xr yr : Nat} (h1 : u + x1 * U = y1 * V) (h2 : v + y2 * V = x2 * U) (hx : x1 ≤ y1) (hx2 : x2 ≤ y2) (hy2 : 0 < y2) (hv : y2 ≤ v) (hc : y1 + y2 ≤ u - v) (hr : xr < t) (hs : yr < t) :
    ∃ p q, p + x1 * (U * t + xr) = y1 * (V * t + yr) ∧ q + y2 * (V * t + yr) = x2 * (U * t + xr) ∧ q < p := by
  have e1 : u * t + x1 * U * t = y1 * V * t := by rw [← Nat.add_mul, h1]
  have e2 : v * t + y2 * V * t = x2 * U * t := by rw [← Nat.add_mul, h2]
  have a1 : x1 * xr ≤ y1 * t := Nat.mul_le_mul hx (by omega)
  have a2 : x2 * xr < y2 * t := Nat.lt_of_le_of_lt (Nat.mul_le_mul_right _ hx2) (Nat.mul_lt_mul_of_pos_left hr hy2)
  have a2' : y2 * yr < y2 * t := Nat.mul_lt_mul_of_pos_left hs hy2
  have a3 : y2 * t ≤ v * t := Nat.mul_le_mul_right _ hv
  have a4 : (y1 + y2 + v) * t ≤ u * t := Nat.mul_le_mul_right _ (by omega)
  rw [Nat.add_mul, Nat.add_mul] at a4
  refine ⟨u * t + y1 * yr - x1 * xr, v * t + x2 * xr - y2 * yr, ?_, ?_, ?_⟩
  · rw [Nat.mul_add, Nat.mul_add, ← Nat.mul_assoc, ← Nat.mul_assoc]; omega
  · rw [Nat.mul_add, Nat.mul_add, ← Nat.mul_assoc, ← Nat.mul_assoc]; omega
  · omega
theorem LInv.out {U V u v x1 x2 y1 y2 : Nat} {s : Bool} (h : LInv U V u v x1 x2 y1 y2 s) (hv : y2 ≤ v) (hc : y1 + y2 ≤ u - v) (t xr yr : Nat) (hr : xr < t) (hs : yr < t) : LOut (U * t + xr) (V * t + yr) x1 x2 y1 y2 s := by
  have hb := h.sum_lt hv
  have hy := h.y12
  have hx2 := h.x2y
  have hx1 : x1 < 4294967296 := by rcases h.x1y with k | ⟨k, _⟩ <;> omega
  refine ⟨hx1, by omega, by omega, by omega, fun hp => ?_⟩
  have hx1y : x1 ≤ y1 := by rcases h.x1y with k | ⟨_, k, _⟩ <;> omega
  have hrel := h.rel
  have key : ∃ p q, Rel s p q x1 x2 y1 y2 (U * t + xr) (V * t + yr) ∧ q < p := by
    cases s
    · simp only [Rel, Bool.false_eq_true, if_false] at hrel ⊢
      obtain ⟨p, q, k1, k2, k3⟩ := lift_odd hrel.1 hrel.2.1 hx1y hx2 h.y2p hv hc hr hs
      exact ⟨p, q, ⟨k1, k2, hrel.2.2⟩, k3⟩
    · simp only [Rel, if_true] at hrel ⊢
      obtain ⟨p, q, k1, k2, k3⟩ := lift_even hrel.1 hrel.2.1 hx2 h.y2p hv hc hr hs
      exact ⟨p, q, ⟨k1, k2, hrel.2.2⟩, k3⟩
  obtain ⟨p, q, k1, k2⟩ := key
  have hy2 := comb k1
  have hx2p : 1 ≤ x2 := by rcases h.x2p with ⟨k, _⟩ | k <;> omega
  have e1 : 1 * p ≤ x2 * p := Nat.mul_le_mul_right _ hx2p
  refine ⟨p, q, k1, k2, ?_, ?_⟩
  · rw [hy2]; omega
  · rw [hy2]; omega
end Go.Proofs.YtdcnkebcpaelpaaGreatDoor
/- Plain facts on rational numbers as a sign, a numerator and a denominator. No program here. -/
namespace Go.Proofs.YtdcnkebcpaelpaaGreatDoor

/-- a denominator of value 0 stands for 1 -/
def dn (D : Nat) : Nat := if D = 0 then 1 else D
theorem dn_zero : dn 0 = 1 := rfl
theorem dn_of {D : Nat} (h : 0 < D) : dn D = D := if_neg (by omega)
theorem dn_pos (D : Nat) : 0 < dn D := by unfold dn; split <;> omega
/-- a number with its sign -/
def sg (s : Bool) (N : Nat) : Int := if s then -(N : Int) else (N : Int)
theorem sg_abs (s : Bool) (N : Nat) : (sg s N).natAbs = N := by cases s <;> simp [sg]
theorem sg_mul (s t : Bool) (N M : Nat) : sg (s != t) (N * M) = sg s N * sg t M := by cases s <;> cases t <;> simp [sg, Int.neg_mul, Int.mul_neg]
theorem sg_mulr (s : Bool) (N M : Nat) : sg s (N * M) = sg s N * (M : Int) := by cases s <;> simp [sg, Int.neg_mul]
theorem sg_add (s : Bool) (N M : Nat) : sg s (N + M) = sg s N + sg s M := by cases s <;> simp [sg]; omega
theorem sg_sub {s t : Bool} {N M : Nat} (h : s ≠ t) (hle : M ≤ N) : sg s (N - M) = sg s N + sg t M := by cases s <;> cases t <;> simp [sg] at h ⊢ <;> omega
theorem sg_sub2 {s t : Bool} {N M : Nat} (h : s ≠ t) (hle : N ≤ M) : sg t (M - N) = sg s N + sg t M := by cases s <;> cases t <;> simp [sg] at h ⊢ <;> omega
theorem sg_not (s : Bool) (N : Nat) : sg (!s) N = - sg s N := by cases s <;> simp [sg]
theorem sg_zero (s : Bool) : sg s 0 = 0 := by cases s <;> simp [sg]
/-- the limbs of a denominator: none for 1 -/
def dd (d : Nat) : List Nat := if d = 1 then [] else dig d
theorem dd_one : dd 1 = [] := rfl
theorem dd_of {d : Nat} (h : d ≠ 1) : dd d = dig d := if_neg h
theorem val_dd {d : Nat} (h : 0 < d) : dn (val (dd d)) = d := by
  unfold dd
  split
  · rename_i e; subst e; rfl
  · rw [val_dig]; exact dn_of h
theorem dd_canon (d : Nat) : Canon (dd d) := by
  unfold dd; split
  · exact canon_nil
  · exact canon_dig d
theorem lims_dd (d : Nat) : Lims (dd d) := by
  unfold dd; split
  · exact lims_nil
  · exact lims_dig d
theorem dd_len (d : Nat) : (dd d).length ≤ (dig d).length := by
  unfold dd; split
  · simp
  · exact Nat.le_refl _
/-- what a sign and two numbers stand for -/
def rq (s : Bool) (N D : Nat) : Rat := mkRat (sg s N) D
/-- the numerator's and the denominator's absolute values in lowest terms -/
def rn (q : Rat) : Nat := q.num.natAbs
def rs (q : Rat) : Bool := decide (q.num < 0)
theorem rn_rq {s : Bool} {N D : Nat} (hD : 0 < D) : rn (rq s N D) = N / Nat.gcd N D := by
  unfold rn rq
  rw [Rat.num_mkRat, if_neg (by omega), sg_abs, Nat.gcd_comm D N]
  cases s
  · simp only [sg, Bool.false_eq_true, if_false]
    rw [← Int.natCast_ediv, Int.natAbs_natCast]
  · simp only [sg, if_true]
    rw [Int.neg_ediv_of_dvd (Int.natCast_dvd_natCast.2 (Nat.gcd_dvd_left N D)), Int.natAbs_neg, ← Int.natCast_ediv, Int.natAbs_natCast]
theorem rd_rq {s : Bool} {N D : Nat} (hD : 0 < D) : (rq s N D).den = D / Nat.gcd N D := by
  unfold rq
  rw [Rat.den_mkRat, if_neg (by omega), sg_abs, Nat.gcd_comm D N]
theorem rs_rq {s : Bool} {N D : Nat} (hD : 0 < D) : rs (rq s N D) = (s && decide (0 < N / Nat.gcd N D)) := by
  have h := rn_rq (s := s) (N := N) hD
  unfold rs
  unfold rn at h
  have hn : (rq s N D).num = sg s N / ((Nat.gcd N D : Nat) : Int) := by
    unfold rq; rw [Rat.num_mkRat, if_neg (by omega), sg_abs, Nat.gcd_comm D N]
  cases s
  · simp only [sg, Bool.false_eq_true, if_false] at hn
    rw [← Int.natCast_ediv] at hn
    rw [hn, decide_eq_false (by omega), Bool.false_and]
  · simp only [sg, if_true] at hn
    rw [Int.neg_ediv_of_dvd (Int.natCast_dvd_natCast.2 (Nat.gcd_dvd_left N D)), ← Int.natCast_ediv] at hn
    rw [hn, Bool.true_and]
    by_cases h0 : 0 < N / Nat.gcd N D
    · rw [decide_eq_true h0, decide_eq_true (by omega)]
    · rw [decide_eq_false h0, decide_eq_false (by omega)]
theorem rq_self (q : Rat) : rq (rs q) (rn q) q.den = q := by
  unfold rq rs rn sg
  by_cases h : q.num < 0
  · rw [decide_eq_true h, if_pos rfl, show -(q.num.natAbs : Int) = q.num by omega]; exact Rat.mkRat_self q
  · rw [decide_eq_false h, if_neg (by simp), show (q.num.natAbs : Int) = q.num by omega]; exact Rat.mkRat_self q
theorem den_pos (q : Rat) : 0 < q.den := Nat.pos_of_ne_zero q.den_nz
theorem rs_le (q : Rat) : rs q = true → 0 < rn q := by
  unfold rs rn; intro h; have := of_decide_eq_true h; omega
theorem rq_le {s : Bool} {N D : Nat} (hD : 0 < D) : rn (rq s N D) ≤ N ∧ (rq s N D).den ≤ D := by
  rw [rn_rq hD, rd_rq hD]; exact ⟨Nat.div_le_self _ _, Nat.div_le_self _ _⟩

theorem rq_add {s t : Bool} {N D M E : Nat} (hD : 0 < D) (hE : 0 < E) {u : Bool} {P : Nat} (h : sg u P = sg s (N * E) + sg t (M * D)) : rq u P (D * E) = rq s N D + rq t M E := by
  unfold rq
  rw [h, Rat.mkRat_add_mkRat _ _ (by omega) (by omega), sg_mulr, sg_mulr]
theorem rq_mul (s t : Bool) (N D M E : Nat) : rq (s != t) (N * M) (D * E) = rq s N D * rq t M E := by
  unfold rq
  rw [sg_mul, Rat.mkRat_mul_mkRat]
theorem rq_neg (s : Bool) (N D : Nat) : rq (!s) N D = - rq s N D := by
  unfold rq; rw [sg_not, Rat.neg_mkRat]
theorem rq_zero_iff {s : Bool} {N D : Nat} (hD : 0 < D) : rq s N D = 0 ↔ N = 0 := by
  unfold rq
  rw [Rat.mkRat_eq_zero (by omega)]
  constructor
  · intro h; have := sg_abs s N; rw [h] at this; simpa using this.symm
  · intro h; rw [h, sg_zero]
theorem rq_div {s t : Bool} {N D M E : Nat} : rq (s != t) (N * E) (D * M) = rq s N D / rq t M E := by
  rw [Rat.div_def]
  have : (rq t M E)⁻¹ = rq t E M := by
    unfold rq
    rw [← Rat.divInt_ofNat, ← Rat.divInt_ofNat, Rat.inv_divInt]
    cases t
    · simp [sg]
    · simp only [sg, if_true]
      rw [Rat.divInt_neg']
  rw [this]; exact rq_mul s t N D E M
/-- the sign -/
def sgn (q : Rat) : Int := if q.num < 0 then -1 else if q.num = 0 then 0 else 1
theorem sgn_rq {s : Bool} {N D : Nat} (hD : 0 < D) : sgn (rq s N D) = if N = 0 then 0 else if s then -1 else 1 := by
  have h0 := rq_zero_iff (s := s) (N := N) hD
  have h1 := rs_rq (s := s) (N := N) hD
  have hg : 0 < Nat.gcd N D := Nat.gcd_pos_of_pos_right _ hD
  unfold sgn
  unfold rs at h1
  by_cases hN : N = 0
  · rw [if_pos hN, h0.2 hN]; rfl
  · rw [if_neg hN]
    have hq : 0 < N / Nat.gcd N D := Nat.div_pos (Nat.le_of_dvd (by omega) (Nat.gcd_dvd_left _ _)) hg
    have hne : (rq s N D).num ≠ 0 := fun e => hN (h0.1 (Rat.num_eq_zero.1 e))
    rw [decide_eq_true hq, Bool.and_true] at h1
    cases s
    · rw [if_neg (of_decide_eq_false h1), if_neg hne]; simp
    · rw [if_pos (of_decide_eq_true h1)]; simp
end Go.Proofs.YtdcnkebcpaelpaaGreatDoor
/- Plain facts on rational numbers: order, rounding. No program here. -/
namespace Go.Proofs.YtdcnkebcpaelpaaGreatDoor

theorem sgn_mk {z : Int} {D : Nat} (hD : 0 < D) : sgn (mkRat z D) = if z < 0 then -1 else if z = 0 then 0 else 1 := by
  by_cases h : z < 0
  · rw [if_pos h]
    have e : mkRat z D = rq true z.natAbs D := by unfold rq sg; rw [if_pos rfl, show -(z.natAbs : Int) = z by omega]
    rw [e, sgn_rq hD, if_neg (by omega), if_pos rfl]
  · rw [if_neg h]
    have e : mkRat z D = rq false z.natAbs D := by unfold rq sg; rw [if_neg (by simp), show (z.natAbs : Int) = z by omega]
    rw [e, sgn_rq hD]
    by_cases h0 : z = 0
    · rw [if_pos h0, if_pos (by omega)]
    · rw [if_neg h0, if_neg (by omega)]; simp
theorem rq_sub {s t : Bool} {N D M E : Nat} (hD : 0 < D) (hE : 0 < E) : rq s N D - rq t M E = mkRat (sg s (N * E) - sg t (M * D)) (D * E) := by
  rw [Rat.sub_eq_add_neg, ← rq_neg]
  unfold rq
  rw [Rat.mkRat_add_mkRat _ _ (by omega) (by omega), ← sg_mulr, ← sg_mulr, sg_not, ← Int.sub_eq_add_neg]
/-- how two numbers compare -/
def cq (p q : Rat) : Int := sgn (p - q)
theorem cq_rq {s t : Bool} {N D M E : Nat} (hD : 0 < D) (hE : 0 < E) : cq (rq s N D) (rq t M E) = (let z := sg s (N * E) - sg t (M * D); if z < 0 then -1 else if z = 0 then 0 else 1) := by
  unfold cq
  rw [rq_sub hD hE, sgn_mk (Nat.mul_pos hD hE)]
theorem mul_zero_iff {N E : Nat} (hE : 0 < E) : N * E = 0 ↔ N = 0 := by
  constructor
  · intro h; rcases Nat.mul_eq_zero.1 h with e | e
    · exact e
    · omega
  · intro h; rw [h, Nat.zero_mul]
/-- what Compare does: first the signs, then the products -/
theorem cq_lt {s t : Bool} {N D M E : Nat} (hD : 0 < D) (hE : 0 < E) (h : sgn (rq s N D) < sgn (rq t M E)) : cq (rq s N D) (rq t M E) = -1 := by
  rw [cq_rq hD hE]
  rw [sgn_rq hD, sgn_rq hE] at h
  have h1 := mul_zero_iff (N := N) hE
  have h2 := mul_zero_iff (N := M) hD
  have e : sg s (N * E) - sg t (M * D) < 0 := by
    cases s <;> cases t <;> simp only [sg, if_true, if_false, Bool.false_eq_true] at h ⊢
    all_goals (split at h <;> split at h <;> omega)
  show (if _ then _ else _) = _
  rw [if_pos e]
theorem cq_gt {s t : Bool} {N D M E : Nat} (hD : 0 < D) (hE : 0 < E) (h : sgn (rq t M E) < sgn (rq s N D)) : cq (rq s N D) (rq t M E) = 1 := by
  rw [cq_rq hD hE]
  rw [sgn_rq hD, sgn_rq hE] at h
  have h1 := mul_zero_iff (N := N) hE
  have h2 := mul_zero_iff (N := M) hD
  have e : 0 < sg s (N * E) - sg t (M * D) := by
    cases s <;> cases t <;> simp only [sg, if_true, if_false, Bool.false_eq_true] at h ⊢
    all_goals (split at h <;> split at h <;> omega)
  show (if _ then _ else _) = _
  rw [if_neg (by omega), if_neg (by omega)]
theorem cq_eq {s t : Bool} {N D M E : Nat} (hD : 0 < D) (hE : 0 < E) (h : sgn (rq s N D) = sgn (rq t M E)) : cq (rq s N D) (rq t M E) = sgn (rq s N D) * cmpn (N * E) (M * D) := by
  rw [cq_rq hD hE]
  have k := sgn_rq (s := s) (N := N) hD
  rw [sgn_rq hD, sgn_rq hE] at h
  rw [k]
  have h1 := mul_zero_iff (N := N) hE
  have h2 := mul_zero_iff (N := M) hD
  obtain ⟨a, ha⟩ : ∃ a, a = N * E := ⟨_, rfl⟩
  obtain ⟨b, hb⟩ : ∃ b, b = M * D := ⟨_, rfl⟩
  rw [← ha] at h1 ⊢
  rw [← hb] at h2 ⊢
  unfold cmpn
  show (if _ then _ else _) = _
  cases s <;> cases t <;> simp only [sg, if_true, if_false, Bool.false_eq_true] at h ⊢
  all_goals
    by_cases n0 : N = 0 <;> by_cases m0 : M = 0
    all_goals simp only [n0, m0, if_true, if_false] at h ⊢
    all_goals first
      | omega
      | (repeat' split) <;> omega
theorem cq_swap (p q : Rat) : cq q p = - cq p q := by
  have e : q - p = - (p - q) := by rw [Rat.neg_sub]
  unfold cq
  rw [e]
  unfold sgn
  rw [Rat.neg_num]
  split <;> split <;> (try split) <;> (try split) <;> omega
theorem sgn_neg (p : Rat) : sgn (-p) = - sgn p := by
  unfold sgn; rw [Rat.neg_num]
  split <;> split <;> (try split) <;> (try split) <;> omega
end Go.Proofs.YtdcnkebcpaelpaaGreatDoor
/- Plain facts on rounding. No program here. -/
namespace Go.Proofs.YtdcnkebcpaelpaaGreatDoor

theorem mk_sub {a b : Int} {D E : Nat} (hD : 0 < D) (hE : 0 < E) : mkRat a D - mkRat b E = mkRat (a * E - b * D) (D * E) := by
  rw [Rat.sub_eq_add_neg, Rat.neg_mkRat, Rat.mkRat_add_mkRat _ _ (by omega) (by omega), Int.neg_mul, ← Int.sub_eq_add_neg]
theorem cq_mk {a b : Int} {D E : Nat} (hD : 0 < D) (hE : 0 < E) : cq (mkRat a D) (mkRat b E) = if a * E - b * D < 0 then -1 else if a * E - b * D = 0 then 0 else 1 := by
  unfold cq; rw [mk_sub hD hE, sgn_mk (Nat.mul_pos hD hE)]
/-- the units of Round's absolute value -/
def ru (N D T : Nat) : Nat := (N * T * 2 + D) / (D * 2)
theorem ru_bounds {N D T : Nat} (hD : 0 < D) : ru N D T * D * 2 ≤ N * T * 2 + D ∧ N * T * 2 + D < ru N D T * D * 2 + D * 2 := by
  have h1 := Nat.div_mul_le_self (N * T * 2 + D) (D * 2)
  have h2 := Nat.lt_succ_self ((N * T * 2 + D) / (D * 2))
  rw [Nat.div_lt_iff_lt_mul (by omega)] at h2
  unfold ru
  rw [Nat.succ_mul] at h2
  rw [Nat.mul_assoc]
  exact ⟨h1, h2⟩
theorem ru_mono {N D M E T : Nat} (hD : 0 < D) (hE : 0 < E) (h : N * E ≤ M * D) : ru N D T ≤ ru M E T := by
  have h1 := (ru_bounds (N := N) (T := T) hD).1
  unfold ru at h1 ⊢
  obtain ⟨k, hk⟩ : ∃ k, k = (N * T * 2 + D) / (D * 2) := ⟨_, rfl⟩
  rw [← hk] at h1 ⊢
  rw [Nat.le_div_iff_mul_le (by omega)]
  have h2 : k * D * 2 * E ≤ (N * T * 2 + D) * E := Nat.mul_le_mul_right _ h1
  have h3 : N * E * (T * 2) ≤ M * D * (T * 2) := Nat.mul_le_mul_right _ h
  have h4 : (k * (E * 2)) * D ≤ (M * T * 2 + E) * D := by
    have e1 : (k * (E * 2)) * D = k * D * 2 * E := by grind
    have e2 : (N * T * 2 + D) * E = N * E * (T * 2) + D * E := by grind
    have e3 : (M * T * 2 + E) * D = M * D * (T * 2) + D * E := by grind
    omega
  exact Nat.le_of_mul_le_mul_right h4 hD
theorem ru_zero {D T : Nat} (hD : 0 < D) : ru 0 D T = 0 := by
  unfold ru; rw [Nat.zero_mul, Nat.zero_mul, Nat.zero_add]; exact Nat.div_eq_of_lt (by omega)
theorem ru_again {K T g : Nat} (hT : 0 < T) (hg : 0 < g) (h1 : g ∣ K) (h2 : g ∣ T) : ru (K / g) (T / g) T = K := by
  obtain ⟨a, rfl⟩ := h1
  obtain ⟨b, rfl⟩ := h2
  rw [Nat.mul_div_cancel_left _ hg, Nat.mul_div_cancel_left _ hg]
  have hb : 0 < b := Nat.pos_of_ne_zero (fun e => by subst e; omega)
  unfold ru
  have e : a * (g * b) * 2 + b = (g * a) * (b * 2) + b := by grind
  rw [e, Nat.mul_comm (g * a), Nat.mul_add_div (by omega), Nat.div_eq_of_lt (by omega), Nat.add_zero]
/-- a number rounded to T-ths -/
def rnd (s : Bool) (N D T : Nat) : Rat := rq s (ru N D T) T
theorem rnd_again {s : Bool} {N D T : Nat} (hT : 0 < T) (q : Rat) (hq : q = rnd s N D T) : rnd (rs q) (rn q) q.den T = q := by
  have hg : 0 < Nat.gcd (ru N D T) T := Nat.gcd_pos_of_pos_right _ hT
  have e1 : rn q = ru N D T / Nat.gcd (ru N D T) T := by rw [hq]; exact rn_rq hT
  have e2 : q.den = T / Nat.gcd (ru N D T) T := by rw [hq]; exact rd_rq hT
  have e3 : rs q = (s && decide (0 < ru N D T / Nat.gcd (ru N D T) T)) := by rw [hq]; exact rs_rq hT
  unfold rnd
  rw [e1, e2, ru_again hT hg (Nat.gcd_dvd_left _ _) (Nat.gcd_dvd_right _ _), e3, hq]
  unfold rnd
  by_cases h0 : 0 < ru N D T / Nat.gcd (ru N D T) T
  · rw [decide_eq_true h0, Bool.and_true]
  · have hz : ru N D T = 0 := by
      rcases Nat.eq_zero_or_pos (ru N D T) with e | e
      · exact e
      · exact absurd (Nat.div_pos (Nat.le_of_dvd e (Nat.gcd_dvd_left _ _)) hg) h0
    rw [hz]; unfold rq; rw [sg_zero, sg_zero]
theorem sg_scale (s : Bool) (K T : Nat) : sg s (K * T) = sg s K * (T : Int) := sg_mulr s K T
/-- Round keeps the order -/
theorem rnd_mono {s t : Bool} {N D M E T : Nat} (hD : 0 < D) (hE : 0 < E) (hT : 0 < T) : cq (rq s N D) (rq t M E) ≤ 0 → cq (rnd s N D T) (rnd t M E T) ≤ 0 := by
  rw [cq_rq hD hE]
  unfold rnd
  rw [cq_rq hT hT]
  intro h
  have h0 : sg s (N * E) - sg t (M * D) ≤ 0 := by
    have h' : (if sg s (N * E) - sg t (M * D) < 0 then (-1 : Int) else if sg s (N * E) - sg t (M * D) = 0 then 0 else 1) ≤ 0 := h
    split at h'
    · omega
    · split at h'
      · omega
      · omega
  have h1 := @ru_mono N D M E T hD hE
  have h2 := @ru_mono M E N D T hE hD
  have key : sg s (ru N D T) ≤ sg t (ru M E T) := by
    have hz1 := mul_zero_iff (N := N) hE
    have hz2 := mul_zero_iff (N := M) hD
    cases s <;> cases t <;> simp only [sg, if_true, if_false, Bool.false_eq_true] at h0 ⊢
    · have := h1 (by omega); omega
    · have e1 := hz1.1 (by omega); have e2 := hz2.1 (by omega)
      rw [e1, e2, ru_zero hD, ru_zero hE]; omega
    · omega
    · have := h2 (by omega); omega
  have hk : sg s (ru N D T * T) - sg t (ru M E T * T) ≤ 0 := by
    rw [sg_scale, sg_scale]
    have := Int.mul_le_mul_of_nonneg_right key (Int.natCast_nonneg T)
    omega
  show (if _ then (-1 : Int) else if _ then 0 else 1) ≤ 0
  split
  · omega
  · rw [if_pos (by omega)]; exact Int.le_refl 0
/-- what is said of a rounded number: a multiple of the unit -/
theorem rnd_units {s : Bool} {N D T : Nat} (hT : 0 < T) : (rnd s N D T / rq false 1 T).den = 1 := by
  unfold rnd
  rw [← rq_div, rd_rq (by omega), Nat.mul_one]
  have : Nat.gcd (ru N D T * T) T = T := Nat.gcd_eq_right (Nat.dvd_mul_left _ _)
  rw [this, Nat.div_self hT]
/-- at most half a unit away, and farther from 0 than the number if it is just half a unit away -/
theorem rnd_near {s : Bool} {N D T : Nat} (hD : 0 < D) (hT : 0 < T) (d u : Rat) (hd : d = rnd s N D T - rq s N D) (hu : u = rq false 1 T) :
    cq (d * d) (u * u * rq false 1 4) ≤ 0 ∧ (cq (d * d) (u * u * rq false 1 4) = 0 → sgn d = sgn (rq s N D)) := by
  obtain ⟨b1, b2⟩ := ru_bounds (N := N) (T := T) hD
  obtain ⟨K, hK⟩ : ∃ K, K = ru N D T := ⟨_, rfl⟩
  rw [← hK] at b1 b2
  have hd2 : d = mkRat (sg s (K * D) - sg s (N * T)) (T * D) := by rw [hd]; unfold rnd; rw [← hK]; exact rq_sub hT hD
  obtain ⟨A, hA⟩ : ∃ A : Int, A = (K * D : Nat) - (N * T : Nat) := ⟨_, rfl⟩
  have hsq : (sg s (K * D) - sg s (N * T)) * (sg s (K * D) - sg s (N * T)) = A * A := by
    rw [hA]; cases s <;> simp only [sg, if_true, if_false, Bool.false_eq_true] <;> grind
  have a1 : 2 * A ≤ D := by omega
  have a2 : -(D : Int) < 2 * A := by omega
  have hdd : d * d = mkRat (A * A) (T * D * (T * D)) := by rw [hd2, Rat.mkRat_mul_mkRat, hsq]
  have huu : u * u * rq false 1 4 = mkRat 1 (T * T * 4) := by
    rw [hu]; unfold rq; rw [Rat.mkRat_mul_mkRat, Rat.mkRat_mul_mkRat]; rfl
  have hp : 0 < T * D := Nat.mul_pos hT hD
  rw [hdd, huu, cq_mk (Nat.mul_pos hp hp) (Nat.mul_pos (Nat.mul_pos hT hT) (by omega))]
  have hz : A * A * ((T * T * 4 : Nat) : Int) - 1 * ((T * D * (T * D) : Nat) : Int) = ((2 * A) * (2 * A) - (D : Int) * D) * ((T * T : Nat) : Int) := by
    push_cast; grind
  rw [hz]
  have hTT : (0 : Int) < ((T * T : Nat) : Int) := by have := Nat.mul_pos hT hT; omega
  have hsqle : (2 * A) * (2 * A) ≤ (D : Int) * D := by
    have e : (D : Int) * D - (2 * A) * (2 * A) = (D - 2 * A) * (D + 2 * A) := by grind
    have := Int.mul_nonneg (show 0 ≤ (D : Int) - 2 * A by omega) (show 0 ≤ (D : Int) + 2 * A by omega)
    omega
  have hle : ((2 * A) * (2 * A) - (D : Int) * D) * ((T * T : Nat) : Int) ≤ 0 := by
    have := Int.mul_le_mul_of_nonneg_right (show (2 * A) * (2 * A) - (D : Int) * D ≤ 0 by omega) (Int.le_of_lt hTT)
    omega
  constructor
  · split
    · omega
    · rw [if_pos (by omega)]; exact Int.le_refl 0
  · intro h
    have h0 : ((2 * A) * (2 * A) - (D : Int) * D) * ((T * T : Nat) : Int) = 0 := by
      split at h
      · omega
      · omega
    have h1 : (2 * A) * (2 * A) - (D : Int) * D = 0 := by
      rcases Int.mul_eq_zero.1 h0 with e | e
      · exact e
      · omega
    have h2 : (D - 2 * A) * (D + 2 * A) = 0 := by grind
    have h3 : 2 * A = D := by
      rcases Int.mul_eq_zero.1 h2 with e | e <;> omega
    have hN : N ≠ 0 := by
      intro e
      have : K = 0 := by rw [hK, e]; exact ru_zero hD
      rw [this, e, Nat.zero_mul, Nat.zero_mul] at hA
      omega
    rw [hd2, sgn_mk hp, sgn_rq hD, if_neg hN]
    cases s <;> simp only [sg, if_true, if_false, Bool.false_eq_true]
    · rw [if_neg (by omega), if_neg (by omega)]
    · rw [if_pos (by omega)]
/-- one unit, made step by step -/
theorem unit_step (i : Nat) : rq false 1 (10 ^ i) / rq false 10 1 = rq false 1 (10 ^ (i + 1)) := by
  rw [← rq_div, Nat.pow_succ]; rfl
end Go.Proofs.YtdcnkebcpaelpaaGreatDoor
