import Derived.Test.YtffnmejabphabaaDoorCalM
/- Business days in plain numbers: the walk from day to day, and how many lie in a stretch. -/
namespace Go.Proofs.YtffnmejabphabaaDoor
open Go.RowKit

/-- a business day -/
def bus (h : List Int) (d : Int) : Bool := decide (0 ≤ d) && decide (d ≤ 182620) && decide (d % 7 < 5) && !h.contains d
/-- from the day d on in steps, the c-th business day: the result and its error -/
inductive W (b : Int → Bool) (step : Int) : Int → Nat → Int × Int → Prop
  | out {d : Int} {c : Nat} : d < 0 ∨ 182620 < d → W b step d c (0, 53)
  | hit {d : Int} : 0 ≤ d → d ≤ 182620 → b d = true → W b step d 1 (d, 0)
  | more {d : Int} {c : Nat} {r : Int × Int} : 0 ≤ d → d ≤ 182620 → b d = true → 1 ≤ c → W b step (d + step) c r → W b step d (c + 1) r
  | skip {d : Int} {c : Nat} {r : Int × Int} : 0 ≤ d → d ≤ 182620 → b d = false → 1 ≤ c → W b step (d + step) c r → W b step d c r

theorem W.up (b : Int → Bool) : ∀ (n : Nat) (d : Int) (c : Nat), 182621 - d ≤ n → 0 ≤ d → 1 ≤ c → ∃ r, W b 1 d c r := by
  intro n
  induction n with
  | zero => intro d c h _ _; exact ⟨_, .out (.inr (by omega))⟩
  | succ n ih =>
    intro d c h h0 hc
    by_cases hd : d ≤ 182620
    · cases hb : b d
      · obtain ⟨r, hr⟩ := ih (d + 1) c (by omega) (by omega) hc
        exact ⟨r, .skip h0 hd hb hc hr⟩
      · by_cases h1 : c = 1
        · subst h1; exact ⟨_, .hit h0 hd hb⟩
        · obtain ⟨c, rfl⟩ : ∃ k, c = k + 1 := ⟨c - 1, by omega⟩
          obtain ⟨r, hr⟩ := ih (d + 1) c (by omega) (by omega) (by omega)
          exact ⟨r, .more h0 hd hb (by omega) hr⟩
    · exact ⟨_, .out (.inr (by omega))⟩
theorem W.down (b : Int → Bool) : ∀ (n : Nat) (d : Int) (c : Nat), d + 1 ≤ n → d ≤ 182620 → 1 ≤ c → ∃ r, W b (-1) d c r := by
  intro n
  induction n with
  | zero => intro d c h _ _; exact ⟨_, .out (.inl (by omega))⟩
  | succ n ih =>
    intro d c h h0 hc
    by_cases hd : 0 ≤ d
    · cases hb : b d
      · obtain ⟨r, hr⟩ := ih (d + -1) c (by omega) (by omega) hc
        exact ⟨r, .skip hd h0 hb hc hr⟩
      · by_cases h1 : c = 1
        · subst h1; exact ⟨_, .hit hd h0 hb⟩
        · obtain ⟨c, rfl⟩ : ∃ k, c = k + 1 := ⟨c - 1, by omega⟩
          obtain ⟨r, hr⟩ := ih (d + -1) c (by omega) (by omega) (by omega)
          exact ⟨r, .more hd h0 hb (by omega) hr⟩
    · exact ⟨_, .out (.inl (by omega))⟩

/-- how many of the n days from d on are business days -/
def cnt (b : Int → Bool) (d : Int) : Nat → Nat
  | 0 => 0
  | n + 1 => cnt b d n + (if b (d + (n : Int)) = true then 1 else 0)
theorem cnt_succ (b : Int → Bool) (d : Int) (n : Nat) : cnt b d (n + 1) = cnt b d n + (if b (d + (n : Int)) = true then 1 else 0) := rfl
theorem cnt_head (b : Int → Bool) (d : Int) (n : Nat) : cnt b d (n + 1) = (if b d = true then 1 else 0) + cnt b (d + 1) n := by
  induction n with
  | zero => simp [cnt]
  | succ n ih =>
    rw [cnt_succ, ih, cnt_succ]
    have e : d + ((n + 1 : Nat) : Int) = d + 1 + (n : Int) := by omega
    rw [e]; omega
theorem cnt_mono (b : Int → Bool) (d : Int) {m n : Nat} (h : m ≤ n) : cnt b d m ≤ cnt b d n := by
  induction n with
  | zero => obtain rfl : m = 0 := by omega
            exact Nat.le_refl _
  | succ n ih =>
    by_cases e : m = n + 1
    · subst e; exact Nat.le_refl _
    · have := ih (by omega)
      rw [cnt_succ]; omega
theorem cnt_add (b : Int → Bool) (d : Int) (m n : Nat) : cnt b d (m + n) = cnt b d m + cnt b (d + (m : Int)) n := by
  induction n with
  | zero => simp [cnt]
  | succ n ih =>
    rw [← Nat.add_assoc, cnt_succ, ih, cnt_succ]
    have e : d + ((m + n : Nat) : Int) = d + (m : Int) + (n : Int) := by omega
    rw [e]; omega

/-- what a walk forward that ends well says -/
theorem W.fwd {b : Int → Bool} {d : Int} {c : Nat} {r : Int × Int} (h : W b 1 d c r) : r.2 = 0 → ∃ n : Nat, r.1 = d + (n : Int) ∧ b r.1 = true ∧ cnt b d n + 1 = c ∧ 0 ≤ r.1 ∧ r.1 ≤ 182620 ∧ 0 ≤ d := by
  induction h with
  | out _ => intro h; simp at h
  | hit h0 h1 h2 => intro _; exact ⟨0, by simp, h2, rfl, h0, h1, h0⟩
  | more h0 h1 h2 h3 _ ih =>
    intro h
    obtain ⟨n, e1, e2, e3, e4, e5, e6⟩ := ih h
    refine ⟨n + 1, by omega, e2, ?_, e4, e5, h0⟩
    rw [cnt_head, h2, if_pos rfl]; omega
  | skip h0 h1 h2 h3 _ ih =>
    intro h
    obtain ⟨n, e1, e2, e3, e4, e5, e6⟩ := ih h
    refine ⟨n + 1, by omega, e2, ?_, e4, e5, h0⟩
    rw [cnt_head, h2, if_neg (by simp)]; omega
/-- where enough business days follow, the walk ends well -/
theorem W.ends {b : Int → Bool} : ∀ (n : Nat) (d : Int) (c : Nat), 1 ≤ c → c ≤ cnt b d n → 0 ≤ d → d + (n : Int) ≤ 182621 → ∃ m : Nat, m < n ∧ W b 1 d c (d + (m : Int), 0) := by
  intro n
  induction n with
  | zero => intro d c h1 h2; simp [cnt] at h2; omega
  | succ n ih =>
    intro d c h1 h2 h3 h4
    rw [cnt_head] at h2
    cases hb : b d
    · rw [hb, if_neg (by simp)] at h2
      obtain ⟨m, hm, hw⟩ := ih (d + 1) c h1 (by omega) (by omega) (by omega)
      refine ⟨m + 1, by omega, ?_⟩
      have e : d + ((m + 1 : Nat) : Int) = d + 1 + (m : Int) := by omega
      rw [e]
      exact .skip h3 (by omega) hb h1 hw
    · rw [hb, if_pos rfl] at h2
      by_cases e1 : c = 1
      · subst e1
        refine ⟨0, by omega, ?_⟩
        have e : d + ((0 : Nat) : Int) = d := by omega
        rw [e]
        exact .hit h3 (by omega) hb
      · obtain ⟨c, rfl⟩ : ∃ k, c = k + 1 := ⟨c - 1, by omega⟩
        obtain ⟨m, hm, hw⟩ := ih (d + 1) c (by omega) (by omega) (by omega) (by omega)
        refine ⟨m + 1, by omega, ?_⟩
        have e : d + ((m + 1 : Nat) : Int) = d + 1 + (m : Int) := by omega
        rw [e]
        exact .more h3 (by omega) hb (by omega) hw
/-- and back -/
theorem W.back {b : Int → Bool} {f : Int} (hb : b f = true) (h0 : 0 ≤ f) : ∀ (n : Nat), f + (n : Int) ≤ 182620 → W b (-1) (f + (n : Int)) (cnt b (f + 1) n + 1) (f, 0) := by
  intro n
  induction n with
  | zero =>
    intro h
    have e : f + ((0 : Nat) : Int) = f := by omega
    rw [e]
    exact .hit h0 (by omega) hb
  | succ n ih =>
    intro h
    have hw := ih (by omega)
    have e : f + ((n + 1 : Nat) : Int) + -1 = f + (n : Int) := by omega
    have e2 : f + 1 + (n : Int) = f + ((n + 1 : Nat) : Int) := by omega
    rw [cnt_succ, e2]
    cases hx : b (f + ((n + 1 : Nat) : Int))
    · rw [if_neg (by simp)]
      exact .skip (by omega) h hx (by omega) (by rw [e]; exact hw)
    · rw [if_pos rfl]
      exact .more (by omega) h hx (by omega) (by rw [e]; exact hw)

/-- the places of a list that lie in a stretch of n days -/
def hits (h : List Int) (d : Int) (n : Nat) : Nat := h.countP (fun x => decide (d ≤ x) && decide (x < d + (n : Int)))
theorem hits_le (h : List Int) (d : Int) (n : Nat) : hits h d n ≤ h.length := List.countP_le_length
theorem hits_succ (h : List Int) (d : Int) (n : Nat) : hits h d n + (if h.contains (d + (n : Int)) = true then 1 else 0) ≤ hits h d (n + 1) := by
  unfold hits
  induction h with
  | nil => simp
  | cons x t ih =>
    rw [List.countP_cons, List.countP_cons]
    by_cases e : x = d + (n : Int)
    · subst e
      have h1 : (decide (d ≤ d + (n : Int)) && decide (d + (n : Int) < d + (n : Int))) = false := by simp
      have h2 : (decide (d ≤ d + (n : Int)) && decide (d + (n : Int) < d + ((n + 1 : Nat) : Int))) = true := by simp; omega
      rw [h1, h2]
      have h3 : t.countP (fun x => decide (d ≤ x) && decide (x < d + (n : Int))) ≤ t.countP (fun x => decide (d ≤ x) && decide (x < d + ((n + 1 : Nat) : Int))) := List.countP_mono_left (fun y _ hy => by simp at hy ⊢; omega)
      have h4 : (if ((d + (n : Int)) :: t).contains (d + (n : Int)) = true then 1 else 0) = 1 := by simp
      rw [h4]
      simp only [Bool.false_eq_true, if_false, if_true]
      omega
    · have hc : (x :: t).contains (d + (n : Int)) = t.contains (d + (n : Int)) := by
        rw [List.contains_cons]
        have : (d + (n : Int) == x) = false := by simp; omega
        rw [this, Bool.false_or]
      have h2 : (decide (d ≤ x) && decide (x < d + ((n + 1 : Nat) : Int))) = (decide (d ≤ x) && decide (x < d + (n : Int))) := by
        by_cases a : d ≤ x
        · by_cases c : x < d + (n : Int)
          · simp [a, c]; omega
          · simp [a, c]; omega
        · simp [a]
      rw [hc, h2]
      omega
/-- weekdays of a stretch -/
theorem bus_wk (h : List Int) (d : Int) (n : Nat) (h0 : 0 ≤ d) (h1 : d + (n : Int) ≤ 182621) : cnt (fun x => decide (x % 7 < 5)) d n ≤ cnt (bus h) d n + hits h d n := by
  induction n with
  | zero => simp [cnt]
  | succ n ih =>
    have ih := ih (by omega)
    have hs := hits_succ h d n
    rw [cnt_succ, cnt_succ]
    by_cases w : (d + (n : Int)) % 7 < 5
    · have e1 : decide (0 ≤ d + (n : Int)) = true := by simp; omega
      have e2 : decide (d + (n : Int) ≤ 182620) = true := by simp; omega
      cases hc : h.contains (d + (n : Int))
      · have : bus h (d + (n : Int)) = true := by unfold bus; rw [e1, e2, hc]; simp [w]
        rw [this]
        simp only [decide_eq_true_eq, w, if_true]
        omega
      · rw [hc, if_pos rfl] at hs
        simp only [decide_eq_true_eq, w, if_true]
        omega
    · have e : (if decide ((d + (n : Int)) % 7 < 5) = true then 1 else 0) = 0 := by simp [w]
      rw [e]
      have : hits h d n ≤ hits h d (n + 1) := by omega
      omega
theorem wk7 (d : Int) : cnt (fun x => decide (x % 7 < 5)) d 7 = 5 := by
  simp only [cnt]
  have h : d % 7 = 0 ∨ d % 7 = 1 ∨ d % 7 = 2 ∨ d % 7 = 3 ∨ d % 7 = 4 ∨ d % 7 = 5 ∨ d % 7 = 6 := by omega
  have key : ∀ (j : Int) (r : Int), (d + j) % 7 = r → (if decide ((d + j) % 7 < 5) = true then 1 else 0) = (if decide (r < 5) = true then (1 : Nat) else 0) := fun j r e => by rw [e]
  rcases h with h | h | h | h | h | h | h
  all_goals
    rw [key ((0 : Nat) : Int) _ rfl, key ((1 : Nat) : Int) _ rfl, key ((2 : Nat) : Int) _ rfl, key ((3 : Nat) : Int) _ rfl, key ((4 : Nat) : Int) _ rfl, key ((5 : Nat) : Int) _ rfl, key ((6 : Nat) : Int) _ rfl]
    first
      | (have e0 : (d + ((0 : Nat) : Int)) % 7 = 0 := by omega
         have e1 : (d + ((1 : Nat) : Int)) % 7 = 1 := by omega
         have e2 : (d + ((2 : Nat) : Int)) % 7 = 2 := by omega
         have e3 : (d + ((3 : Nat) : Int)) % 7 = 3 := by omega
         have e4 : (d + ((4 : Nat) : Int)) % 7 = 4 := by omega
         have e5 : (d + ((5 : Nat) : Int)) % 7 = 5 := by omega
         have e6 : (d + ((6 : Nat) : Int)) % 7 = 6 := by omega
         rw [e0, e1, e2, e3, e4, e5, e6]; rfl)
      | (have e0 : (d + ((0 : Nat) : Int)) % 7 = 1 := by omega
         have e1 : (d + ((1 : Nat) : Int)) % 7 = 2 := by omega
         have e2 : (d + ((2 : Nat) : Int)) % 7 = 3 := by omega
         have e3 : (d + ((3 : Nat) : Int)) % 7 = 4 := by omega
         have e4 : (d + ((4 : Nat) : Int)) % 7 = 5 := by omega
         have e5 : (d + ((5 : Nat) : Int)) % 7 = 6 := by omega
         have e6 : (d + ((6 : Nat) : Int)) % 7 = 0 := by omega
         rw [e0, e1, e2, e3, e4, e5, e6]; rfl)
      | (have e0 : (d + ((0 : Nat) : Int)) % 7 = 2 := by omega
         have e1 : (d + ((1 : Nat) : Int)) % 7 = 3 := by omega
         have e2 : (d + ((2 : Nat) : Int)) % 7 = 4 := by omega
         have e3 : (d + ((3 : Nat) : Int)) % 7 = 5 := by omega
         have e4 : (d + ((4 : Nat) : Int)) % 7 = 6 := by omega
         have e5 : (d + ((5 : Nat) : Int)) % 7 = 0 := by omega
         have e6 : (d + ((6 : Nat) : Int)) % 7 = 1 := by omega
         rw [e0, e1, e2, e3, e4, e5, e6]; rfl)
      | (have e0 : (d + ((0 : Nat) : Int)) % 7 = 3 := by omega
         have e1 : (d + ((1 : Nat) : Int)) % 7 = 4 := by omega
         have e2 : (d + ((2 : Nat) : Int)) % 7 = 5 := by omega
         have e3 : (d + ((3 : Nat) : Int)) % 7 = 6 := by omega
         have e4 : (d + ((4 : Nat) : Int)) % 7 = 0 := by omega
         have e5 : (d + ((5 : Nat) : Int)) % 7 = 1 := by omega
         have e6 : (d + ((6 : Nat) : Int)) % 7 = 2 := by omega
         rw [e0, e1, e2, e3, e4, e5, e6]; rfl)
      | (have e0 : (d + ((0 : Nat) : Int)) % 7 = 4 := by omega
         have e1 : (d + ((1 : Nat) : Int)) % 7 = 5 := by omega
         have e2 : (d + ((2 : Nat) : Int)) % 7 = 6 := by omega
         have e3 : (d + ((3 : Nat) : Int)) % 7 = 0 := by omega
         have e4 : (d + ((4 : Nat) : Int)) % 7 = 1 := by omega
         have e5 : (d + ((5 : Nat) : Int)) % 7 = 2 := by omega
         have e6 : (d + ((6 : Nat) : Int)) % 7 = 3 := by omega
         rw [e0, e1, e2, e3, e4, e5, e6]; rfl)
      | (have e0 : (d + ((0 : Nat) : Int)) % 7 = 5 := by omega
         have e1 : (d + ((1 : Nat) : Int)) % 7 = 6 := by omega
         have e2 : (d + ((2 : Nat) : Int)) % 7 = 0 := by omega
         have e3 : (d + ((3 : Nat) : Int)) % 7 = 1 := by omega
         have e4 : (d + ((4 : Nat) : Int)) % 7 = 2 := by omega
         have e5 : (d + ((5 : Nat) : Int)) % 7 = 3 := by omega
         have e6 : (d + ((6 : Nat) : Int)) % 7 = 4 := by omega
         rw [e0, e1, e2, e3, e4, e5, e6]; rfl)
      | (have e0 : (d + ((0 : Nat) : Int)) % 7 = 6 := by omega
         have e1 : (d + ((1 : Nat) : Int)) % 7 = 0 := by omega
         have e2 : (d + ((2 : Nat) : Int)) % 7 = 1 := by omega
         have e3 : (d + ((3 : Nat) : Int)) % 7 = 2 := by omega
         have e4 : (d + ((4 : Nat) : Int)) % 7 = 3 := by omega
         have e5 : (d + ((5 : Nat) : Int)) % 7 = 4 := by omega
         have e6 : (d + ((6 : Nat) : Int)) % 7 = 5 := by omega
         rw [e0, e1, e2, e3, e4, e5, e6]; rfl)
theorem wk_weeks (d : Int) (m : Nat) : cnt (fun x => decide (x % 7 < 5)) d (7 * m) = 5 * m := by
  induction m with
  | zero => rfl
  | succ m ih => rw [show 7 * (m + 1) = 7 * m + 7 by omega, cnt_add, ih, wk7]; omega
theorem cnt_ge (h : List Int) (d : Int) (m : Nat) (h0 : 0 ≤ d) (h1 : d + ((7 * m : Nat) : Int) ≤ 182621) : 5 * m ≤ cnt (bus h) d (7 * m) + h.length := by
  have a := bus_wk h d (7 * m) h0 h1
  have b := wk_weeks d m
  have c := hits_le h d (7 * m)
  omega
end Go.Proofs.YtffnmejabphabaaDoor
