import Derived.Test.YtkedgkfdmdlhoaaDoorPrdRi
/- Layer 8's Validate, for the seat of layer 9. -/
namespace Go.Proofs.YtkedgkfdmdlhoaaDoor.P9
open Go.RowKit Go.Sort C6

/-- the first error of a quantity -/
def qwhy (d c a : Int) : Int := if d < 1 ∨ 4 < d then 80 else if c < 1 ∨ 100 < c then 81 else if a < 1 ∨ 1099511627776 / c < a then 82 else 0
theorem qwhy_d {d c a : Int} (h : d < 1 ∨ 4 < d) : qwhy d c a = 80 := if_pos h
theorem qwhy_c {d c a : Int} (h : ¬ (d < 1 ∨ 4 < d)) (h2 : c < 1 ∨ 100 < c) : qwhy d c a = 81 := (if_neg h).trans (if_pos h2)
theorem qwhy_a {d c a : Int} (h : ¬ (d < 1 ∨ 4 < d)) (h2 : ¬ (c < 1 ∨ 100 < c)) (h3 : a < 1 ∨ 1099511627776 / c < a) : qwhy d c a = 82 := (if_neg h).trans ((if_neg h2).trans (if_pos h3))
theorem qwhy_ok {d c a : Int} (h : ¬ (d < 1 ∨ 4 < d)) (h2 : ¬ (c < 1 ∨ 100 < c)) (h3 : ¬ (a < 1 ∨ 1099511627776 / c < a)) : qwhy d c a = 0 := (if_neg h).trans ((if_neg h2).trans (if_neg h3))
theorem qwhy_zero {d c a : Int} : qwhy d c a = 0 ↔ (1 ≤ d ∧ d ≤ 4 ∧ 1 ≤ c ∧ c ≤ 100 ∧ 1 ≤ a ∧ a ≤ 1099511627776 / c) := by
  unfold qwhy
  split
  · constructor
    · intro h; omega
    · omega
  · split
    · constructor
      · intro h; omega
      · omega
    · split
      · constructor
        · intro h; omega
        · rename_i h; intro k; omega
      · constructor
        · intro _; omega
        · intro _; rfl
theorem qcap {c a : Int} (h1 : 1 ≤ c) (h : a ≤ 1099511627776 / c) : c * a ≤ 1099511627776 := by
  have h2 : (1099511627776 / c) * c ≤ 1099511627776 := Int.ediv_mul_le _ (by omega)
  have h3 : a * c ≤ (1099511627776 / c) * c := Int.mul_le_mul_of_nonneg_right h (by omega)
  rw [Int.mul_comm]; omega
theorem qa_le {c a : Int} (h1 : 1 ≤ c) (h0 : 1 ≤ a) (h : a ≤ 1099511627776 / c) : a ≤ 1099511627776 := by
  have h2 := qcap h1 h
  have h3 : 1 * a ≤ c * a := Int.mul_le_mul_of_nonneg_right h1 (by omega)
  omega
theorem qwhy_mag (d c a : Int) : 0 ≤ qwhy d c a ∧ qwhy d c a ≤ 82 := by
  unfold qwhy
  split
  · omega
  · split
    · omega
    · split <;> omega
theorem drewN_belowQ {B : Nat} {w w2 : World} (h : Below B w w2) (n : Nat) : Below B w (w2.drewN n) := h.trans ⟨rfl, rfl, rfl, Nat.le_refl _, fun _ _ => rfl⟩

set_option maxHeartbeats 4000000 in
set_option maxRecDepth 100000 in
theorem Validate_q (d c a : Int) (hb : QB d c a) (w : World) :
    Calls Tryd.prog 24 #[.agg #[.int .i64 d, .int .i64 c, .int .i64 a]] w fun e w' => e = .returned (.int .i64 (qwhy d c a)) ∧ Below w.heap.size w w' := by
  obtain ⟨hd0, hd1, hc0, hc1, ha0, ha1⟩ := hb
  have HB := Lib.hid ((Below.refl w.heap.size w).alloc (Nat.le_refl _) (.cells #[.int .i64 d, .int .i64 c, .int .i64 a] 23))
  by_cases h1 : d < 1
  · have e := Lib.hid (qwhy_d (d := d) (c := c) (a := a) (.inl h1))
    go_enter Tryd.func24, Tryd.ntmps24
    go_wp2_with fail
    go_ret
    exact ⟨by rw [e.out] <;> rfl, HB.out⟩
  · by_cases h2 : 4 < d
    · have e := Lib.hid (qwhy_d (d := d) (c := c) (a := a) (.inr h2))
      go_enter Tryd.func24, Tryd.ntmps24
      go_wp2_with fail
      go_ret
      exact ⟨by rw [e.out] <;> rfl, HB.out⟩
    · by_cases h3 : c < 1
      · have e := Lib.hid (qwhy_c (d := d) (c := c) (a := a) (by omega) (.inl h3))
        go_enter Tryd.func24, Tryd.ntmps24
        go_wp2_with fail
        go_ret
        exact ⟨by rw [e.out] <;> rfl, HB.out⟩
      · by_cases h4 : 100 < c
        · have e := Lib.hid (qwhy_c (d := d) (c := c) (a := a) (by omega) (.inr h4))
          go_enter Tryd.func24, Tryd.ntmps24
          go_wp2_with fail
          go_ret
          exact ⟨by rw [e.out] <;> rfl, HB.out⟩
        · obtain ⟨k, rfl⟩ : ∃ k : Nat, c = (k : Int) := ⟨c.toNat, by omega⟩
          have k1 : 1 ≤ k := by omega
          obtain ⟨Q, hQ⟩ : ∃ Q : Nat, Q = 1099511627776 / k := ⟨_, rfl⟩
          have hqe : (1099511627776 : Int) / (k : Int) = (Q : Int) := by rw [hQ]; exact (Int.natCast_ediv 1099511627776 k).symm
          have hQb : Q ≤ 1099511627776 := by rw [hQ]; exact Nat.div_le_self _ _
          have hqt : Int.tdiv 1099511627776 (k : Int) = (Q : Int) := by rw [Int.tdiv_eq_ediv_of_nonneg (by omega)]; exact hqe
          have hqw : IntKind.i64.wrap (Q : Int) = (Q : Int) := IntWalk.i64_in _ (by omega)
          have hkz : ((k : Int) == 0) = false := by rw [beq_eq_false_iff_ne]; omega
          have HQ := Lib.hid hqe
          clear hQ
          have hk0 : ¬ (k : Int) = 0 := by omega
          have hk1 : ¬ k = 0 := by omega
          by_cases h5 : a < 1
          · have hda : decide (a < 1) = true := decide_eq_true h5
            have e := Lib.hid (qwhy_a (d := d) (c := (k : Int)) (a := a) (by omega) (by omega) (.inl h5))
            clear hqe
            go_enter Tryd.func24, Tryd.ntmps24
            go_wp2_with fail
            go_quiet (fail)
            all_goals
              go_wp2_with fail
              go_ret
              exact ⟨by rw [e.out] <;> rfl, drewN_belowQ HB.out _⟩
          · have hda : decide (a < 1) = false := decide_eq_false h5
            by_cases h6 : (Q : Int) < a
            · have hdq : decide ((Q : Int) < a) = true := decide_eq_true h6
              have e := Lib.hid (qwhy_a (d := d) (c := (k : Int)) (a := a) (by omega) (by omega) (.inr (by rw [hqe]; exact h6)))
              clear hqe
              go_enter Tryd.func24, Tryd.ntmps24
              go_wp2_with fail
              go_quiet (fail)
              all_goals
                go_wp2_with fail
                go_ret
                exact ⟨by rw [e.out] <;> rfl, drewN_belowQ HB.out _⟩
            · have hdq : decide ((Q : Int) < a) = false := decide_eq_false h6
              have e := Lib.hid (qwhy_ok (d := d) (c := (k : Int)) (a := a) (by omega) (by omega) (by rw [hqe]; omega))
              clear hqe
              go_enter Tryd.func24, Tryd.ntmps24
              go_wp2_with fail
              go_quiet (fail)
              all_goals
                go_wp2_with fail
                go_ret
                exact ⟨by rw [e.out] <;> rfl, drewN_belowQ HB.out _⟩

set_option maxHeartbeats 4000000 in
set_option maxRecDepth 100000 in
theorem rValidate_q (d c a : Int) (hb : QB d c a) (w : World) :
    Calls Tryd.prog 29 #[.agg #[.int .i64 d, .int .i64 c, .int .i64 a]] w fun e w' => e = .returned (.int .i64 (qwhy d c a)) ∧ Below w.heap.size w w' := by
  obtain ⟨hd0, hd1, hc0, hc1, ha0, ha1⟩ := hb
  have HB := Lib.hid ((Below.refl w.heap.size w).alloc (Nat.le_refl _) (.cells #[.int .i64 d, .int .i64 c, .int .i64 a] 23))
  by_cases h1 : d < 1
  · have e := Lib.hid (qwhy_d (d := d) (c := c) (a := a) (.inl h1))
    go_enter Tryd.func29, Tryd.ntmps29
    go_wp2_with fail
    go_ret
    exact ⟨by rw [e.out] <;> rfl, HB.out⟩
  · by_cases h2 : 4 < d
    · have e := Lib.hid (qwhy_d (d := d) (c := c) (a := a) (.inr h2))
      go_enter Tryd.func29, Tryd.ntmps29
      go_wp2_with fail
      go_ret
      exact ⟨by rw [e.out] <;> rfl, HB.out⟩
    · by_cases h3 : c < 1
      · have e := Lib.hid (qwhy_c (d := d) (c := c) (a := a) (by omega) (.inl h3))
        go_enter Tryd.func29, Tryd.ntmps29
        go_wp2_with fail
        go_ret
        exact ⟨by rw [e.out] <;> rfl, HB.out⟩
      · by_cases h4 : 100 < c
        · have e := Lib.hid (qwhy_c (d := d) (c := c) (a := a) (by omega) (.inr h4))
          go_enter Tryd.func29, Tryd.ntmps29
          go_wp2_with fail
          go_ret
          exact ⟨by rw [e.out] <;> rfl, HB.out⟩
        · obtain ⟨k, rfl⟩ : ∃ k : Nat, c = (k : Int) := ⟨c.toNat, by omega⟩
          have k1 : 1 ≤ k := by omega
          obtain ⟨Q, hQ⟩ : ∃ Q : Nat, Q = 1099511627776 / k := ⟨_, rfl⟩
          have hqe : (1099511627776 : Int) / (k : Int) = (Q : Int) := by rw [hQ]; exact (Int.natCast_ediv 1099511627776 k).symm
          have hQb : Q ≤ 1099511627776 := by rw [hQ]; exact Nat.div_le_self _ _
          have hqt : Int.tdiv 1099511627776 (k : Int) = (Q : Int) := by rw [Int.tdiv_eq_ediv_of_nonneg (by omega)]; exact hqe
          have hqw : IntKind.i64.wrap (Q : Int) = (Q : Int) := IntWalk.i64_in _ (by omega)
          have hkz : ((k : Int) == 0) = false := by rw [beq_eq_false_iff_ne]; omega
          have HQ := Lib.hid hqe
          clear hQ
          have hk0 : ¬ (k : Int) = 0 := by omega
          have hk1 : ¬ k = 0 := by omega
          by_cases h5 : a < 1
          · have hda : decide (a < 1) = true := decide_eq_true h5
            have e := Lib.hid (qwhy_a (d := d) (c := (k : Int)) (a := a) (by omega) (by omega) (.inl h5))
            clear hqe
            go_enter Tryd.func29, Tryd.ntmps29
            go_wp2_with fail
            go_quiet (fail)
            all_goals
              go_wp2_with fail
              go_ret
              exact ⟨by rw [e.out] <;> rfl, drewN_belowQ HB.out _⟩
          · have hda : decide (a < 1) = false := decide_eq_false h5
            by_cases h6 : (Q : Int) < a
            · have hdq : decide ((Q : Int) < a) = true := decide_eq_true h6
              have e := Lib.hid (qwhy_a (d := d) (c := (k : Int)) (a := a) (by omega) (by omega) (.inr (by rw [hqe]; exact h6)))
              clear hqe
              go_enter Tryd.func29, Tryd.ntmps29
              go_wp2_with fail
              go_quiet (fail)
              all_goals
                go_wp2_with fail
                go_ret
                exact ⟨by rw [e.out] <;> rfl, drewN_belowQ HB.out _⟩
            · have hdq : decide ((Q : Int) < a) = false := decide_eq_false h6
              have e := Lib.hid (qwhy_ok (d := d) (c := (k : Int)) (a := a) (by omega) (by omega) (by rw [hqe]; omega))
              clear hqe
              go_enter Tryd.func29, Tryd.ntmps29
              go_wp2_with fail
              go_quiet (fail)
              all_goals
                go_wp2_with fail
                go_ret
                exact ⟨by rw [e.out] <;> rfl, drewN_belowQ HB.out _⟩

end Go.Proofs.YtkedgkfdmdlhoaaDoor.P9
