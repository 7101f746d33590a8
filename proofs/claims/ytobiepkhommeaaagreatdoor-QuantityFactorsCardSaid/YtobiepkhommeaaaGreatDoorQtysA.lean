import Derived.Test.YtobiepkhommeaaaGreatDoorQtysM
import Derived.Test.YtobiepkhommeaaaGreatDoorRat10
/- Quantities: Validate and Total of the code and of the reference. -/
namespace Go.Proofs.YtobiepkhommeaaaGreatDoor
open Go.RowKit

/-- a quantity's three numbers are numbers of the machine -/
structure QB (d c a : Int) : Prop where
  d0 : -9223372036854775808 ≤ d
  d1 : d ≤ 9223372036854775807
  c0 : -9223372036854775808 ≤ c
  c1 : c ≤ 9223372036854775807
  a0 : -9223372036854775808 ≤ a
  a1 : a ≤ 9223372036854775807
theorem drewN_below {B : Nat} {w w2 : World} (h : Below B w w2) (n : Nat) : Below B w (w2.drewN n) := h.trans ⟨rfl, rfl, rfl, Nat.le_refl _, fun _ _ => rfl⟩
theorem cellQ {A w : World} {p : Addr} {v : Value} (h : A.cell? p = some v) (b : Below A.heap.size A w) : w.cell? p = some v := (b.cell (World.block_lt_of_cell? _ _ h)).trans h

set_option maxHeartbeats 4000000 in
set_option maxRecDepth 100000 in
theorem Validate_q (d c a : Int) (hb : QB d c a) (w : World) :
    Calls Tryz.prog 63 #[.agg #[.int .i64 d, .int .i64 c, .int .i64 a]] w fun e w' => e = .returned (.int .i64 (qwhy d c a)) ∧ Below w.heap.size w w' := by
  obtain ⟨hd0, hd1, hc0, hc1, ha0, ha1⟩ := hb
  have HB := Lib.hid ((Below.refl w.heap.size w).alloc (Nat.le_refl _) (.cells #[.int .i64 d, .int .i64 c, .int .i64 a] 39))
  by_cases h1 : d < 1
  · have e := Lib.hid (qwhy_d (d := d) (c := c) (a := a) (.inl h1))
    go_enter Tryz.func63, Tryz.ntmps63
    go_wp2_with fail
    go_ret
    exact ⟨by rw [e.out] <;> rfl, HB.out⟩
  · by_cases h2 : 4 < d
    · have e := Lib.hid (qwhy_d (d := d) (c := c) (a := a) (.inr h2))
      go_enter Tryz.func63, Tryz.ntmps63
      go_wp2_with fail
      go_ret
      exact ⟨by rw [e.out] <;> rfl, HB.out⟩
    · by_cases h3 : c < 1
      · have e := Lib.hid (qwhy_c (d := d) (c := c) (a := a) (by omega) (.inl h3))
        go_enter Tryz.func63, Tryz.ntmps63
        go_wp2_with fail
        go_ret
        exact ⟨by rw [e.out] <;> rfl, HB.out⟩
      · by_cases h4 : 100 < c
        · have e := Lib.hid (qwhy_c (d := d) (c := c) (a := a) (by omega) (.inr h4))
          go_enter Tryz.func63, Tryz.ntmps63
          go_wp2_with fail
          go_ret
          exact ⟨by rw [e.out] <;> rfl, HB.out⟩
        · obtain ⟨k, rfl⟩ : ∃ k : Nat, c = (k : Int) := ⟨c.toNat, by omega⟩
          have k1 : 1 ≤ k := by omega
          obtain ⟨Q, hQ⟩ : ∃ Q : Nat, Q = 1099511627776 / k := ⟨_, rfl⟩
          have hqe : (1099511627776 : Int) / (k : Int) = (Q : Int) := by rw [hQ]; exact (Int.natCast_ediv 1099511627776 k).symm
          have hQb : Q ≤ 1099511627776 := by rw [hQ]; exact Nat.div_le_self _ _
          have hqt : Int.tdiv 1099511627776 (k : Int) = (Q : Int) := by rw [Int.tdiv_eq_ediv_of_nonneg (by omega)]; exact hqe
          have hqw : IntKind.i64.wrap (Q : Int) = (Q : Int) := IntWalk.i64_in _ (by omega)
          have hkz : ((k : Int) == 0) = false := by rw [beq_eq_false_iff_ne]; omega
          have HQ := Lib.hid hqe
          clear hQ
          have hk0 : ¬ (k : Int) = 0 := by omega
          have hk1 : ¬ k = 0 := by omega
          by_cases h5 : a < 1
          · have hda : decide (a < 1) = true := decide_eq_true h5
            have e := Lib.hid (qwhy_a (d := d) (c := (k : Int)) (a := a) (by omega) (by omega) (.inl h5))
            clear hqe
            go_enter Tryz.func63, Tryz.ntmps63
            go_wp2_with fail
            go_quiet (fail)
            all_goals
              go_wp2_with fail
              go_ret
              exact ⟨by rw [e.out] <;> rfl, drewN_below HB.out _⟩
          · have hda : decide (a < 1) = false := decide_eq_false h5
            by_cases h6 : (Q : Int) < a
            · have hdq : decide ((Q : Int) < a) = true := decide_eq_true h6
              have e := Lib.hid (qwhy_a (d := d) (c := (k : Int)) (a := a) (by omega) (by omega) (.inr (by rw [hqe]; exact h6)))
              clear hqe
              go_enter Tryz.func63, Tryz.ntmps63
              go_wp2_with fail
              go_quiet (fail)
              all_goals
                go_wp2_with fail
                go_ret
                exact ⟨by rw [e.out] <;> rfl, drewN_below HB.out _⟩
            · have hdq : decide ((Q : Int) < a) = false := decide_eq_false h6
              have e := Lib.hid (qwhy_ok (d := d) (c := (k : Int)) (a := a) (by omega) (by omega) (by rw [hqe]; omega))
              clear hqe
              go_enter Tryz.func63, Tryz.ntmps63
              go_wp2_with fail
              go_quiet (fail)
              all_goals
                go_wp2_with fail
                go_ret
                exact ⟨by rw [e.out] <;> rfl, drewN_below HB.out _⟩

set_option maxHeartbeats 4000000 in
set_option maxRecDepth 100000 in
theorem rValidate_q (d c a : Int) (hb : QB d c a) (w : World) :
    Calls Tryz.prog 28 #[.agg #[.int .i64 d, .int .i64 c, .int .i64 a]] w fun e w' => e = .returned (.int .i64 (qwhy d c a)) ∧ Below w.heap.size w w' := by
  obtain ⟨hd0, hd1, hc0, hc1, ha0, ha1⟩ := hb
  have HB := Lib.hid ((Below.refl w.heap.size w).alloc (Nat.le_refl _) (.cells #[.int .i64 d, .int .i64 c, .int .i64 a] 39))
  by_cases h1 : d < 1
  · have e := Lib.hid (qwhy_d (d := d) (c := c) (a := a) (.inl h1))
    go_enter Tryz.func28, Tryz.ntmps28
    go_wp2_with fail
    go_ret
    exact ⟨by rw [e.out] <;> rfl, HB.out⟩
  · by_cases h2 : 4 < d
    · have e := Lib.hid (qwhy_d (d := d) (c := c) (a := a) (.inr h2))
      go_enter Tryz.func28, Tryz.ntmps28
      go_wp2_with fail
      go_ret
      exact ⟨by rw [e.out] <;> rfl, HB.out⟩
    · by_cases h3 : c < 1
      · have e := Lib.hid (qwhy_c (d := d) (c := c) (a := a) (by omega) (.inl h3))
        go_enter Tryz.func28, Tryz.ntmps28
        go_wp2_with fail
        go_ret
        exact ⟨by rw [e.out] <;> rfl, HB.out⟩
      · by_cases h4 : 100 < c
        · have e := Lib.hid (qwhy_c (d := d) (c := c) (a := a) (by omega) (.inr h4))
          go_enter Tryz.func28, Tryz.ntmps28
          go_wp2_with fail
          go_ret
          exact ⟨by rw [e.out] <;> rfl, HB.out⟩
        · obtain ⟨k, rfl⟩ : ∃ k : Nat, c = (k : Int) := ⟨c.toNat, by omega⟩
          have k1 : 1 ≤ k := by omega
          obtain ⟨Q, hQ⟩ : ∃ Q : Nat, Q = 1099511627776 / k := ⟨_, rfl⟩
          have hqe : (1099511627776 : Int) / (k : Int) = (Q : Int) := by rw [hQ]; exact (Int.natCast_ediv 1099511627776 k).symm
          have hQb : Q ≤ 1099511627776 := by rw [hQ]; exact Nat.div_le_self _ _
          have hqt : Int.tdiv 1099511627776 (k : Int) = (Q : Int) := by rw [Int.tdiv_eq_ediv_of_nonneg (by omega)]; exact hqe
          have hqw : IntKind.i64.wrap (Q : Int) = (Q : Int) := IntWalk.i64_in _ (by omega)
          have hkz : ((k : Int) == 0) = false := by rw [beq_eq_false_iff_ne]; omega
          have HQ := Lib.hid hqe
          clear hQ
          have hk0 : ¬ (k : Int) = 0 := by omega
          have hk1 : ¬ k = 0 := by omega
          by_cases h5 : a < 1
          · have hda : decide (a < 1) = true := decide_eq_true h5
            have e := Lib.hid (qwhy_a (d := d) (c := (k : Int)) (a := a) (by omega) (by omega) (.inl h5))
            clear hqe
            go_enter Tryz.func28, Tryz.ntmps28
            go_wp2_with fail
            go_quiet (fail)
            all_goals
              go_wp2_with fail
              go_ret
              exact ⟨by rw [e.out] <;> rfl, drewN_below HB.out _⟩
          · have hda : decide (a < 1) = false := decide_eq_false h5
            by_cases h6 : (Q : Int) < a
            · have hdq : decide ((Q : Int) < a) = true := decide_eq_true h6
              have e := Lib.hid (qwhy_a (d := d) (c := (k : Int)) (a := a) (by omega) (by omega) (.inr (by rw [hqe]; exact h6)))
              clear hqe
              go_enter Tryz.func28, Tryz.ntmps28
              go_wp2_with fail
              go_quiet (fail)
              all_goals
                go_wp2_with fail
                go_ret
                exact ⟨by rw [e.out] <;> rfl, drewN_below HB.out _⟩
            · have hdq : decide ((Q : Int) < a) = false := decide_eq_false h6
              have e := Lib.hid (qwhy_ok (d := d) (c := (k : Int)) (a := a) (by omega) (by omega) (by rw [hqe]; omega))
              clear hqe
              go_enter Tryz.func28, Tryz.ntmps28
              go_wp2_with fail
              go_quiet (fail)
              all_goals
                go_wp2_with fail
                go_ret
                exact ⟨by rw [e.out] <;> rfl, drewN_below HB.out _⟩

set_option maxHeartbeats 4000000 in
set_option maxRecDepth 100000 in
theorem Total_q (d c a : Int) (hb : QB d c a) (w : World) :
    Calls Tryz.prog 73 #[.agg #[.int .i64 d, .int .i64 c, .int .i64 a]] w fun e w' => e = .returned (.int .i64 (qtot d c a)) ∧ Below w.heap.size w w' := by
  have B0 := below_new w (.cells #[.int .i64 d, .int .i64 c, .int .i64 a] 39)
  have x0 := heap_alloc_new w (.cells #[.int .i64 d, .int .i64 c, .int .i64 a] 39)
  have CV : Hid (∀ w, Calls Tryz.prog 63 #[.agg #[.int .i64 d, .int .i64 c, .int .i64 a]] w fun e w' => e = .returned (.int .i64 (qwhy d c a)) ∧ Below w.heap.size w w') := fun w => Validate_q d c a hb w
  obtain ⟨W1, hW1⟩ : ∃ W, W = w.alloc (.cells #[.int .i64 d, .int .i64 c, .int .i64 a] 39) := ⟨_, rfl⟩
  rw [← hW1] at B0 x0
  obtain ⟨y, hy⟩ : ∃ y, y = qwhy d c a := ⟨_, rfl⟩
  obtain ⟨T, hT⟩ : ∃ T, T = qtot d c a := ⟨_, rfl⟩
  have hT2 : y = 0 → T = c * a ∧ IntKind.i64.wrap (c * a) = c * a ∧ IntKind.i64.wrap c = c := fun h => by
    have hq : qwhy d c a = 0 := by rw [← hy]; exact h
    have h1 : qtot d c a = c * a := if_pos hq
    have h2 := qtot_pos hq
    have h3 := qwhy_zero.1 hq
    rw [h1] at h2
    exact ⟨by rw [hT, h1], IntWalk.i64_in _ (by omega), IntWalk.i64_in _ (by omega)⟩
  have hT3 : y ≠ 0 → T = 0 := fun h => by rw [hT]; exact if_neg (by rw [← hy]; exact h)
  rw [← hT]
  unfold Hid at CV
  rw [← hy] at CV
  have CV := Lib.hid CV
  have T2 := Lib.hid hT2
  have T3 := Lib.hid hT3
  clear hb hT hy hT2 hT3
  go_enter Tryz.func73, Tryz.ntmps73
  obtain ⟨c0, c1, c2, _⟩ := at_block x0
  go_wp2_with fail
  rw [← hW1]
  clear hW1
  refine (CV.out _).mono ?_; rintro e W2 ⟨rfl, b2⟩
  have x2 := carry x0 b2
  have B2 := Lib.hid (B0.trans (b2.mono B0.size))
  clear c0 c1 c2 x0 B0 b2
  obtain ⟨c0, c1, c2, _⟩ := at_block x2
  by_cases h : y = 0
  · have hb : (y != 0) = false := by rw [h]; rfl
    obtain ⟨t1, t2, t3⟩ := T2.out h
    have T1 := Lib.hid t1
    clear t1 h
    go_wp2_with fail
    go_ret
    exact ⟨by rw [T1.out] <;> rfl, B2.out⟩
  · have hb : (y != 0) = true := by simp [h]
    have T1 := Lib.hid (T3.out h)
    clear h
    go_wp2_with fail
    go_ret
    exact ⟨by rw [T1.out] <;> rfl, B2.out⟩

set_option maxHeartbeats 4000000 in
set_option maxRecDepth 100000 in
theorem rTotal_q (d c a : Int) (hb : QB d c a) (w : World) :
    Calls Tryz.prog 84 #[.agg #[.int .i64 d, .int .i64 c, .int .i64 a]] w fun e w' => e = .returned (.int .i64 (qtot d c a)) ∧ Below w.heap.size w w' := by
  have B0 := below_new w (.cells #[.int .i64 d, .int .i64 c, .int .i64 a] 39)
  have x0 := heap_alloc_new w (.cells #[.int .i64 d, .int .i64 c, .int .i64 a] 39)
  have CV : Hid (∀ w, Calls Tryz.prog 28 #[.agg #[.int .i64 d, .int .i64 c, .int .i64 a]] w fun e w' => e = .returned (.int .i64 (qwhy d c a)) ∧ Below w.heap.size w w') := fun w => rValidate_q d c a hb w
  obtain ⟨W1, hW1⟩ : ∃ W, W = w.alloc (.cells #[.int .i64 d, .int .i64 c, .int .i64 a] 39) := ⟨_, rfl⟩
  rw [← hW1] at B0 x0
  obtain ⟨y, hy⟩ : ∃ y, y = qwhy d c a := ⟨_, rfl⟩
  obtain ⟨T, hT⟩ : ∃ T, T = qtot d c a := ⟨_, rfl⟩
  have hT2 : y = 0 → T = c * a ∧ IntKind.i64.wrap (c * a) = c * a ∧ IntKind.i64.wrap c = c := fun h => by
    have hq : qwhy d c a = 0 := by rw [← hy]; exact h
    have h1 : qtot d c a = c * a := if_pos hq
    have h2 := qtot_pos hq
    have h3 := qwhy_zero.1 hq
    rw [h1] at h2
    exact ⟨by rw [hT, h1], IntWalk.i64_in _ (by omega), IntWalk.i64_in _ (by omega)⟩
  have hT3 : y ≠ 0 → T = 0 := fun h => by rw [hT]; exact if_neg (by rw [← hy]; exact h)
  rw [← hT]
  unfold Hid at CV
  rw [← hy] at CV
  have CV := Lib.hid CV
  have T2 := Lib.hid hT2
  have T3 := Lib.hid hT3
  clear hb hT hy hT2 hT3
  go_enter Tryz.func84, Tryz.ntmps84
  obtain ⟨c0, c1, c2, _⟩ := at_block x0
  go_wp2_with fail
  rw [← hW1]
  clear hW1
  refine (CV.out _).mono ?_; rintro e W2 ⟨rfl, b2⟩
  have x2 := carry x0 b2
  have B2 := Lib.hid (B0.trans (b2.mono B0.size))
  clear c0 c1 c2 x0 B0 b2
  obtain ⟨c0, c1, c2, _⟩ := at_block x2
  by_cases h : y = 0
  · have hb : (y != 0) = false := by rw [h]; rfl
    obtain ⟨t1, t2, t3⟩ := T2.out h
    have T1 := Lib.hid t1
    clear t1 h
    go_wp2_with fail
    go_ret
    exact ⟨by rw [T1.out] <;> rfl, B2.out⟩
  · have hb : (y != 0) = true := by simp [h]
    have T1 := Lib.hid (T3.out h)
    clear h
    go_wp2_with fail
    go_ret
    exact ⟨by rw [T1.out] <;> rfl, B2.out⟩
end Go.Proofs.YtobiepkhommeaaaGreatDoor
/- Quantities: the units of the code, and which one is sought. -/
namespace Go.Proofs.YtobiepkhommeaaaGreatDoor
open Go.RowKit

/-- a unit as a value -/
def uv (u : Un) : Value := .agg #[.string (txtB u.name), .int .i64 u.dim, .int .i64 u.size, .bool u.flag]
def uz (u : Un) : List Value := [.string (txtB u.name), .int .i64 u.dim, .int .i64 u.size, .bool u.flag]
/-- a box of one unit at block g -/
def Box4 (w : World) (g : Nat) : Prop := ∃ u v x y, w.heap[g]? = some (.cells #[u, v, x, y] 86 (0, 0))
theorem at_block4 {w : World} {g : Nat} {u v x y : Value} {t : TypeId} (h : w.heap[g]? = some (.cells #[u, v, x, y] t (0, 0))) :
    w.cell? ⟨g, 0, none⟩ = some u ∧ w.cell? ⟨g, 1, none⟩ = some v ∧ w.cell? ⟨g, 2, none⟩ = some x ∧ w.cell? ⟨g, 3, none⟩ = some y ∧ w.frozen? ⟨g, 0, none⟩ = false ∧ w.frozen? ⟨g, 1, none⟩ = false ∧ w.frozen? ⟨g, 2, none⟩ = false ∧ w.frozen? ⟨g, 3, none⟩ = false := by
  refine ⟨?_, ?_, ?_, ?_, ?_, ?_, ?_, ?_⟩
  · simp [World.cell?, h]
  · simp [World.cell?, h]
  · simp [World.cell?, h]
  · simp [World.cell?, h]
  · simp [World.frozen?, h]
  · simp [World.frozen?, h]
  · simp [World.frozen?, h]
  · simp [World.frozen?, h]
theorem below4 {B : Nat} {w w2 : World} (h : Below B w w2) {g : Nat} (hg : B ≤ g) (u v x y : Value) : Below B w ((((w2.setCell ⟨g, 0, none⟩ u).setCell ⟨g, 1, none⟩ v).setCell ⟨g, 2, none⟩ x).setCell ⟨g, 3, none⟩ y) := by
  have h1 := below3 h hg u v x
  exact h1.setCell hg y
/-- the row of the units lies in the world -/
def URow (w : World) (g : Nat) (us : List Un) : Prop := w.heap[g]? = some (.cells (us.flatMap uz).toArray 86 (0, 0))
theorem URow.below {w w' : World} {g : Nat} {us : List Un} (h : URow w g us) (b : Below w.heap.size w w') : URow w' g us := carry h b
theorem flat_at : ∀ (us : List Un) (i : Nat), i < us.length → ∀ (j : Nat) (v : Value), (uz (us.getD i Un.nil))[j]? = some v → (us.flatMap uz)[4 * i + j]? = some v
  | [], i, h, _, _, _ => by simp at h
  | u :: r, 0, _, j, v, h => by
    rw [List.flatMap_cons, List.getElem?_append_left]
    · simpa using h
    · have : j < (uz ((u :: r).getD 0 Un.nil)).length := (List.getElem?_eq_some_iff.1 h).1
      simpa [uz] using this
  | u :: r, i + 1, hi, j, v, h => by
    rw [List.flatMap_cons, List.getElem?_append_right (by simp [uz]; omega), show 4 * (i + 1) + j - (uz u).length = 4 * i + j by simp [uz]; omega]
    exact flat_at r i (by simpa using hi) j v (by simpa using h)
theorem URow.at {w : World} {g : Nat} {us : List Un} (h : URow w g us) {i : Nat} (hi : i < us.length) :
    w.cell? ⟨g, i * 4, none⟩ = some (.string (txtB (us.getD i Un.nil).name)) ∧ w.cell? ⟨g, i * 4 + 1, none⟩ = some (.int .i64 (us.getD i Un.nil).dim) ∧ w.cell? ⟨g, i * 4 + 2, none⟩ = some (.int .i64 (us.getD i Un.nil).size) ∧ w.cell? ⟨g, i * 4 + 3, none⟩ = some (.bool (us.getD i Un.nil).flag) := by
  unfold URow at h
  have key : ∀ (j : Nat) (v : Value), (uz (us.getD i Un.nil))[j]? = some v → w.cell? ⟨g, i * 4 + j, none⟩ = some v := fun j v hv => by
    have := flat_at us i hi j v hv
    rw [Nat.mul_comm] at this
    simp [World.cell?, h, this]
  exact ⟨key 0 _ rfl, key 1 _ rfl, key 2 _ rfl, key 3 _ rfl⟩
theorem getD_in {l : List Un} {i : Nat} (h : i < l.length) : l.getD i Un.nil = l[i] := by simp [List.getD, h]
theorem first_hit {p : Un → Bool} {i : Nat} (hi : i < 10) (hn : ∀ j : Nat, j < i → p (cU.getD j Un.nil) = false) (hp : p (cU.getD i Un.nil) = true) : firstU p = cU.getD i Un.nil := by
  have key : ∀ (l : List Un) (i : Nat), i < l.length → (∀ j : Nat, j < i → p (l.getD j Un.nil) = false) → p (l.getD i Un.nil) = true → l.find? p = some (l.getD i Un.nil) := by
    intro l
    induction l with
    | nil => intro i h _ _; simp at h
    | cons u r ih =>
      intro i h hn hp
      cases i with
      | zero => rw [List.find?_cons, show p u = true from hp]; rfl
      | succ i =>
        have h0 : p u = false := hn 0 (by omega)
        rw [List.find?_cons, h0]
        exact ih i (by simpa using h) (fun j hj => hn (j + 1) (by omega)) hp
  unfold firstU
  rw [key cU i hi hn hp]
  rfl
theorem first_none {p : Un → Bool} (hn : ∀ j : Nat, j < 10 → p (cU.getD j Un.nil) = false) : firstU p = Un.nil := by
  have : cU.find? p = none := by
    rw [List.find?_eq_none]
    intro u hu
    obtain ⟨j, hj, e⟩ := List.getElem_of_mem hu
    have := hn j hj
    rw [getD_in hj, e] at this
    simp [this]
  unfold firstU
  rw [this]
  rfl
theorem cU_mem {i : Nat} (hi : i < 10) : cU.getD i Un.nil ∈ cU := by
  rw [getD_in (show i < cU.length from hi)]
  exact List.getElem_mem _

set_option maxHeartbeats 4000000 in
set_option maxRecDepth 100000 in
theorem units_v (w : World) :
    Calls Tryz.prog 144 #[] w fun e w' => ∃ g, e = .returned (.slice (some ⟨g, 0, none⟩) 10 10) ∧ URow w' g cU ∧ Below w.heap.size w w' := by
  have HR : Hid (URow (w.alloc (.cells (cU.flatMap uz).toArray 86)) w.heap.size cU) := heap_alloc_new w _
  have HB := Lib.hid (below_new w (.cells (cU.flatMap uz).toArray 86))
  go_enter Tryz.func144, Tryz.ntmps144
  go_wp2_with fail
  go_ret
  exact ⟨_, rfl, HR.out, HB.out⟩
end Go.Proofs.YtobiepkhommeaaaGreatDoor
/- Quantities: which unit is sought: the closures, firstUnit at each, unitNamed, standardUnit, unitFor. -/
namespace Go.Proofs.YtobiepkhommeaaaGreatDoor
open Go.RowKit

set_option maxHeartbeats 4000000 in
set_option maxRecDepth 100000 in
theorem suits_v (N : ByteArray) (dm z a : Int) (fl : Bool) (hz : 1 ≤ z) (hz2 : z ≤ 1000000) (h10 : fl = true → z = 10) (ha : 1 ≤ a) (ha2 : a ≤ 1099511627776) (w : World) :
    Calls Tryz.prog 112 #[.agg #[.string N, .int .i64 dm, .int .i64 z, .bool fl], .int .i64 a] w fun e w' => e = .returned (.bool (decide (z ≤ a) && (!fl || a % z == 0))) ∧ Below w.heap.size w w' := by
  have HB := Lib.hid (below_new w (.cells #[.string N, .int .i64 dm, .int .i64 z, .bool fl] 86))
  by_cases hle : z ≤ a
  · cases fl with
    | false =>
      have HE : Hid ((decide (z ≤ a) && (!false || a % z == 0)) = true) := by unfold Hid; simp [hle]
      go_enter Tryz.func112, Tryz.ntmps112
      go_wp2_with fail
      go_ret
      exact ⟨by first | (rw [HE.out] <;> rfl) | rfl, HB.out⟩
    | true =>
      obtain rfl : z = 10 := h10 rfl
      obtain ⟨r, hr⟩ : ∃ r, r = a % 10 := ⟨_, rfl⟩
      have hr0 : 0 ≤ r ∧ r < 10 := by omega
      have ht : Int.tmod a 10 = r := by rw [Int.tmod_eq_emod_of_nonneg (by omega), hr]
      have hw : IntKind.i64.wrap r = r := IntWalk.i64_in _ (by omega)
      have he : a % 10 = r := hr.symm
      by_cases h0 : r = 0
      · have HE : Hid ((decide ((10 : Int) ≤ a) && (!true || a % 10 == 0)) = true) := by unfold Hid; simp [hle, he, h0]
        have hb : (r == 0) = true := by simp [h0]
        clear hr h10
        go_enter Tryz.func112, Tryz.ntmps112
        go_wp2_with fail
        go_ret
        exact ⟨by first | (rw [HE.out] <;> rfl) | rfl, HB.out⟩
      · have HE : Hid ((decide ((10 : Int) ≤ a) && (!true || a % 10 == 0)) = false) := by unfold Hid; simp [hle, he, h0]
        have hb : (r == 0) = false := by simp [h0]
        clear hr h10
        go_enter Tryz.func112, Tryz.ntmps112
        go_wp2_with fail
        go_ret
        exact ⟨by first | (rw [HE.out] <;> rfl) | rfl, HB.out⟩
  · have HE : Hid ((decide (z ≤ a) && (!fl || a % z == 0)) = false) := by unfold Hid; simp [hle]
    go_enter Tryz.func112, Tryz.ntmps112
    go_wp2_with fail
    go_ret
    exact ⟨by first | (rw [HE.out] <;> rfl) | rfl, HB.out⟩
theorem suits_u {u : Un} (hu : u ∈ cU) (a : Int) (ha : 1 ≤ a) (ha2 : a ≤ 1099511627776) (w : World) :
    Calls Tryz.prog 112 #[.agg #[.string (txtB u.name), .int .i64 u.dim, .int .i64 u.size, .bool u.flag], .int .i64 a] w fun e w' => e = .returned (.bool (suits u a)) ∧ Below w.heap.size w w' := by
  obtain ⟨h1, h2, _⟩ := un_size hu
  refine suits_v _ _ _ _ _ h1 h2 ?_ ha ha2 w
  simp only [cU, List.mem_cons, List.not_mem_nil, or_false] at hu
  rcases hu with rfl | rfl | rfl | rfl | rfl | rfl | rfl | rfl | rfl | rfl <;> simp

set_option maxHeartbeats 4000000 in
set_option maxRecDepth 100000 in
theorem named1_v (N s : ByteArray) (dm z : Int) (fl : Bool) (g : Nat) (w : World) (hc : w.cell? ⟨g, 0, none⟩ = some (.string s)) :
    Calls Tryz.prog 122 #[.agg #[.string N, .int .i64 dm, .int .i64 z, .bool fl], .pointer (some ⟨g, 0, none⟩)] w fun e w' => e = .returned (.bool (N.data.toList == s.data.toList)) ∧ Below w.heap.size w w' := by
  have HB := Lib.hid (below_new w (.cells #[.string N, .int .i64 dm, .int .i64 z, .bool fl] 86))
  have hg := World.block_lt_of_cell? _ _ hc
  have hne : g ≠ w.heap.size := by show g ≠ _; have : g < w.heap.size := hg; omega
  obtain ⟨b, hb⟩ : ∃ b, b = (N.data.toList == s.data.toList) := ⟨_, rfl⟩
  have hb2 : (N.toList == s.toList) = b := by rw [hb, ByteArray.toList_eq, ByteArray.toList_eq]
  rw [← hb]
  clear hb
  go_enter Tryz.func122, Tryz.ntmps122
  go_wp2_with fail
  go_ret
  exact ⟨by first | rfl | rw [hb2], HB.out⟩

set_option maxHeartbeats 4000000 in
set_option maxRecDepth 100000 in
theorem std1_v (N : ByteArray) (dm z d : Int) (fl : Bool) (g : Nat) (w : World) (hc : w.cell? ⟨g, 0, none⟩ = some (.int .i64 d)) :
    Calls Tryz.prog 126 #[.agg #[.string N, .int .i64 dm, .int .i64 z, .bool fl], .pointer (some ⟨g, 0, none⟩)] w fun e w' => e = .returned (.bool (dm == d)) ∧ Below w.heap.size w w' := by
  have HB := Lib.hid (below_new w (.cells #[.string N, .int .i64 dm, .int .i64 z, .bool fl] 86))
  have hg := World.block_lt_of_cell? _ _ hc
  have hne : g ≠ w.heap.size := by show g ≠ _; have : g < w.heap.size := hg; omega
  obtain ⟨b, hb⟩ : ∃ b, b = (dm == d) := ⟨_, rfl⟩
  rw [← hb]
  have hb2 := hb.symm
  clear hb
  go_enter Tryz.func126, Tryz.ntmps126
  go_wp2_with fail
  go_ret
  exact ⟨by first | rfl | rw [hb2], HB.out⟩

set_option maxHeartbeats 4000000 in
set_option maxRecDepth 100000 in
theorem for1_v {u : Un} (hu : u ∈ cU) (d a : Int) (ha : 1 ≤ a) (ha2 : a ≤ 1099511627776) (g k : Nat) (w : World) (hc : w.cell? ⟨g, 0, none⟩ = some (.int .i64 d)) (hk : w.cell? ⟨k, 0, none⟩ = some (.int .i64 a)) :
    Calls Tryz.prog 111 #[.agg #[.string (txtB u.name), .int .i64 u.dim, .int .i64 u.size, .bool u.flag], .pointer (some ⟨g, 0, none⟩), .pointer (some ⟨k, 0, none⟩)] w fun e w' => e = .returned (.bool (u.dim == d && suits u a)) ∧ Below w.heap.size w w' := by
  have HS := Lib.hid (fun w => suits_u hu a ha ha2 w)
  obtain ⟨N, hN⟩ : ∃ N, N = txtB u.name := ⟨_, rfl⟩
  obtain ⟨dm, hdm⟩ : ∃ x, x = u.dim := ⟨_, rfl⟩
  obtain ⟨z, hz⟩ : ∃ x, x = u.size := ⟨_, rfl⟩
  obtain ⟨fl, hfl⟩ : ∃ x, x = u.flag := ⟨_, rfl⟩
  obtain ⟨s, hs⟩ : ∃ x, x = suits u a := ⟨_, rfl⟩
  unfold Hid at HS
  rw [← hN, ← hdm, ← hz, ← hfl, ← hs] at HS ⊢
  have HS := Lib.hid HS
  have B0 := below_new w (.cells #[.string N, .int .i64 dm, .int .i64 z, .bool fl] 86)
  have HB := Lib.hid B0
  have hg := World.block_lt_of_cell? _ _ hc
  have hkk := World.block_lt_of_cell? _ _ hk
  have hne : g ≠ w.heap.size := by show g ≠ _; have : g < w.heap.size := hg; omega
  have hne2 : k ≠ w.heap.size := by show k ≠ _; have : k < w.heap.size := hkk; omega
  clear hN hdm hz hfl hs hu B0
  by_cases h : dm = d
  · have hb : (dm == d) = true := by simp [h]
    have HE : Hid ((dm == d && s) = s) := by unfold Hid; rw [hb]; rfl
    clear h
    go_enter Tryz.func111, Tryz.ntmps111
    go_wp2_with fail
    refine (HS.out _).mono ?_; rintro e w2 ⟨rfl, b2⟩
    have HB2 := Lib.hid (HB.out.trans (b2.mono HB.out.size))
    clear b2
    go_wp2_with fail
    go_ret
    exact ⟨by first | (rw [HE.out] <;> rfl) | rfl, HB2.out⟩
  · have hb : (dm == d) = false := by simp [h]
    have HE : Hid ((dm == d && s) = false) := by unfold Hid; rw [hb]; rfl
    clear h
    go_enter Tryz.func111, Tryz.ntmps111
    go_wp2_with fail
    go_ret
    exact ⟨by first | (rw [HE.out] <;> rfl) | rfl, HB.out⟩
end Go.Proofs.YtobiepkhommeaaaGreatDoor
/- Quantities: firstUnit at its three closures; unitNamed, standardUnit, unitFor. -/
namespace Go.Proofs.YtobiepkhommeaaaGreatDoor
open Go.RowKit

set_option maxHeartbeats 8000000 in
set_option maxRecDepth 100000 in
theorem firstN_v (s : ByteArray) (g : Nat) (w : World) (hc : w.cell? ⟨g, 0, none⟩ = some (.string s)) :
    Calls Tryz.prog 110 #[.func (.func 122) #[] #[.pointer (some ⟨g, 0, none⟩)]] w fun e w' => e = .returned (.agg #[.string (txtB (firstU (fun u => u.name == s.data.toList)).name), .int .i64 (firstU (fun u => u.name == s.data.toList)).dim, .int .i64 (firstU (fun u => u.name == s.data.toList)).size, .bool (firstU (fun u => u.name == s.data.toList)).flag]) ∧ Below w.heap.size w w' := by
  have PC : Hid (∀ u ∈ cU, ∀ w', Below w.heap.size w w' → Calls Tryz.prog 122 #[.agg #[.string (txtB u.name), .int .i64 u.dim, .int .i64 u.size, .bool u.flag], .pointer (some ⟨g, 0, none⟩)] w' fun e w2 => e = .returned (.bool ((fun u => u.name == s.data.toList) u)) ∧ Below w'.heap.size w' w2) := fun u hu w' hb => (by have h := named1_v (txtB u.name) s u.dim u.size u.flag g w' (cellQ hc hb); rw [txtB_list] at h; exact h)
  obtain ⟨p, hp⟩ : ∃ p : Un → Bool, p = (fun u => u.name == s.data.toList) := ⟨_, rfl⟩
  unfold Hid at PC
  rw [← hp] at PC ⊢
  have PC := Lib.hid PC
  clear hp hc
  have B0 := below_new w (.cells #[.string ⟨#[]⟩, .int .i64 0, .int .i64 0, .bool false] 86)
  have x0 := heap_alloc_new w (.cells #[.string ⟨#[]⟩, .int .i64 0, .int .i64 0, .bool false] 86)
  obtain ⟨W1, hW1⟩ : ∃ W, W = w.alloc (.cells #[.string ⟨#[]⟩, .int .i64 0, .int .i64 0, .bool false] 86) := ⟨_, rfl⟩
  rw [← hW1] at B0 x0
  go_enter Tryz.func110, Tryz.ntmps110
  go_wp2_with fail
  rw [← hW1]
  clear hW1
  refine (units_v _).mono ?_; rintro e W2 ⟨g, rfl, hrow, b2⟩
  have X2 := Lib.hid (carry x0 b2)
  have B2 := Lib.hid (B0.trans (b2.mono B0.size))
  have R2 := Lib.hid hrow
  have hsz : w.heap.size < W2.heap.size := (Array.getElem?_eq_some_iff.1 X2.out).1
  have HSZ := Lib.hid hsz
  clear x0 B0 b2 hrow hsz
  go_wp2_with fail
  go_loopw [7] (fun s7 wr => ∃ i : Nat, i ≤ 10 ∧ s7 = .int .i64 (i : Int) ∧ Hid (∀ j : Nat, j < i → p (cU.getD j Un.nil) = false) ∧ Hid (Below W2.heap.size W2 wr)) (fun s7 _ => 10 - (intOf s7).toNat)
  case atStart => exact ⟨0, by omega, rfl, fun j hj => absurd hj (Nat.not_lt_zero _), Below.refl _ _⟩
  case round =>
    obtain ⟨i, hi, rfl, hno, hwr⟩ := hrel
    have xr := carry X2.out hwr.out
    by_cases hlt : i < 10
    · have hlt2 : (i : Int) < 10 := by omega
      obtain ⟨u, hu⟩ : ∃ u, u = cU.getD i Un.nil := ⟨_, rfl⟩
      have hmem : u ∈ cU := by rw [hu]; exact cU_mem hlt
      obtain ⟨c0, c1, c2, c3⟩ := (R2.out.below hwr.out).at (show i < cU.length from hlt)
      rw [← hu] at c0 c1 c2 c3
      have PU := Lib.hid (PC.out u hmem)
      have HIT : Hid (p u = true → firstU p = u) := fun h => by rw [hu] at h ⊢; exact first_hit hlt hno.out h
      have MISS : Hid (p u = false → ∀ j : Nat, j < i + 1 → p (cU.getD j Un.nil) = false) := fun h j hj => by
        rcases Nat.lt_or_ge j i with k | k
        · exact hno.out j k
        · obtain rfl : j = i := by omega
          rw [← hu]; exact h
      obtain ⟨N, hN⟩ : ∃ N, N = txtB u.name := ⟨_, rfl⟩
      obtain ⟨dm, hdm⟩ : ∃ x, x = u.dim := ⟨_, rfl⟩
      obtain ⟨z, hz⟩ : ∃ x, x = u.size := ⟨_, rfl⟩
      obtain ⟨fl, hfl⟩ : ∃ x, x = u.flag := ⟨_, rfl⟩
      unfold Hid at PU
      rw [← hN] at c0
      rw [← hdm] at c1
      rw [← hz] at c2
      rw [← hfl] at c3
      rw [← hN, ← hdm, ← hz, ← hfl] at PU
      have PU := Lib.hid PU
      have HV : Hid (Value.agg #[.string N, .int .i64 dm, .int .i64 z, .bool fl] = uv u) := by unfold Hid; rw [hN, hdm, hz, hfl]; rfl
      have n1 := below_new wr (.cells #[.string N, .int .i64 dm, .int .i64 z, .bool fl] 86)
      have y1 := heap_alloc_new wr (.cells #[.string N, .int .i64 dm, .int .i64 z, .bool fl] 86)
      have BW := hwr.out.trans (n1.mono hwr.out.size)
      have HBW := Lib.hid BW
      have CU := Lib.hid (PU.out (wr.alloc (.cells #[.string N, .int .i64 dm, .int .i64 z, .bool fl] 86)) (B2.out.trans (BW.mono B2.out.size)))
      obtain ⟨b, hb⟩ : ∃ b, b = p u := ⟨_, rfl⟩
      unfold Hid at CU
      rw [← hb] at CU
      have CU := Lib.hid CU
      have HPB := Lib.hid hb
      have Y1 := Lib.hid y1
      have hrs := Lib.hid hwr.out.size
      clear hu hmem hN hdm hz hfl hb n1 y1 BW PU
      go_wp2_with fail
      refine (CU.out).mono ?_; rintro e w2 ⟨rfl, bw2⟩
      have z2 := carry Y1.out bw2
      have BX := Lib.hid (HBW.out.trans (bw2.mono HBW.out.size))
      have x2 := carry X2.out BX.out
      obtain ⟨k0, k1, k2, k3, _⟩ := at_block4 z2
      obtain ⟨u0, u1, u2, u3, q0, q1, q2, q3⟩ := at_block4 x2
      clear c0 c1 c2 c3 xr z2 x2 bw2
      cases b with
      | true =>
        have HF := Lib.hid (HIT.out HPB.out.symm)
        go_wp2_with fail
        refine bodyPost_ret (v := uv u) (by rw [← HV.out]; simp [results, Tryz.results110, go_sem, u0, u1, u2, u3]) rfl ?_
        rw [HF.out]
        exact ⟨rfl, below4 (B2.out.trans (BX.out.mono B2.out.size)) (Nat.le_refl _) _ _ _ _⟩
      | false =>
        have HF := Lib.hid (MISS.out HPB.out.symm)
        go_wp2_with fail
        go_roundw
        case rel => exact ⟨i + 1, by omega, by go_num, HF, BX⟩
        case measure => simp [intOf]; omega
    · obtain rfl : i = 10 := by omega
      have HF := Lib.hid (first_none hno.out)
      obtain ⟨u0, u1, u2, u3, q0, q1, q2, q3⟩ := at_block4 xr
      go_wp2_with fail
      refine bodyPost_ret (v := uv Un.nil) (by simp [results, Tryz.results110, go_sem, u0, u1, u2, u3, uv, Un.nil, txtB]) rfl ?_
      rw [HF.out]
      first
        | exact ⟨rfl, below4 (B2.out.trans (hwr.out.mono B2.out.size)) (Nat.le_refl _) _ _ _ _⟩
        | exact ⟨rfl, B2.out.trans (hwr.out.mono B2.out.size)⟩

set_option maxHeartbeats 8000000 in
set_option maxRecDepth 100000 in
theorem firstS_v (d : Int) (g : Nat) (w : World) (hc : w.cell? ⟨g, 0, none⟩ = some (.int .i64 d)) :
    Calls Tryz.prog 110 #[.func (.func 126) #[] #[.pointer (some ⟨g, 0, none⟩)]] w fun e w' => e = .returned (.agg #[.string (txtB (firstU (fun u => u.dim == d)).name), .int .i64 (firstU (fun u => u.dim == d)).dim, .int .i64 (firstU (fun u => u.dim == d)).size, .bool (firstU (fun u => u.dim == d)).flag]) ∧ Below w.heap.size w w' := by
  have PC : Hid (∀ u ∈ cU, ∀ w', Below w.heap.size w w' → Calls Tryz.prog 126 #[.agg #[.string (txtB u.name), .int .i64 u.dim, .int .i64 u.size, .bool u.flag], .pointer (some ⟨g, 0, none⟩)] w' fun e w2 => e = .returned (.bool ((fun u => u.dim == d) u)) ∧ Below w'.heap.size w' w2) := fun u hu w' hb => std1_v (txtB u.name) u.dim u.size d u.flag g w' (cellQ hc hb)
  obtain ⟨p, hp⟩ : ∃ p : Un → Bool, p = (fun u => u.dim == d) := ⟨_, rfl⟩
  unfold Hid at PC
  rw [← hp] at PC ⊢
  have PC := Lib.hid PC
  clear hp hc
  have B0 := below_new w (.cells #[.string ⟨#[]⟩, .int .i64 0, .int .i64 0, .bool false] 86)
  have x0 := heap_alloc_new w (.cells #[.string ⟨#[]⟩, .int .i64 0, .int .i64 0, .bool false] 86)
  obtain ⟨W1, hW1⟩ : ∃ W, W = w.alloc (.cells #[.string ⟨#[]⟩, .int .i64 0, .int .i64 0, .bool false] 86) := ⟨_, rfl⟩
  rw [← hW1] at B0 x0
  go_enter Tryz.func110, Tryz.ntmps110
  go_wp2_with fail
  rw [← hW1]
  clear hW1
  refine (units_v _).mono ?_; rintro e W2 ⟨g, rfl, hrow, b2⟩
  have X2 := Lib.hid (carry x0 b2)
  have B2 := Lib.hid (B0.trans (b2.mono B0.size))
  have R2 := Lib.hid hrow
  have hsz : w.heap.size < W2.heap.size := (Array.getElem?_eq_some_iff.1 X2.out).1
  have HSZ := Lib.hid hsz
  clear x0 B0 b2 hrow hsz
  go_wp2_with fail
  go_loopw [7] (fun s7 wr => ∃ i : Nat, i ≤ 10 ∧ s7 = .int .i64 (i : Int) ∧ Hid (∀ j : Nat, j < i → p (cU.getD j Un.nil) = false) ∧ Hid (Below W2.heap.size W2 wr)) (fun s7 _ => 10 - (intOf s7).toNat)
  case atStart => exact ⟨0, by omega, rfl, fun j hj => absurd hj (Nat.not_lt_zero _), Below.refl _ _⟩
  case round =>
    obtain ⟨i, hi, rfl, hno, hwr⟩ := hrel
    have xr := carry X2.out hwr.out
    by_cases hlt : i < 10
    · have hlt2 : (i : Int) < 10 := by omega
      obtain ⟨u, hu⟩ : ∃ u, u = cU.getD i Un.nil := ⟨_, rfl⟩
      have hmem : u ∈ cU := by rw [hu]; exact cU_mem hlt
      obtain ⟨c0, c1, c2, c3⟩ := (R2.out.below hwr.out).at (show i < cU.length from hlt)
      rw [← hu] at c0 c1 c2 c3
      have PU := Lib.hid (PC.out u hmem)
      have HIT : Hid (p u = true → firstU p = u) := fun h => by rw [hu] at h ⊢; exact first_hit hlt hno.out h
      have MISS : Hid (p u = false → ∀ j : Nat, j < i + 1 → p (cU.getD j Un.nil) = false) := fun h j hj => by
        rcases Nat.lt_or_ge j i with k | k
        · exact hno.out j k
        · obtain rfl : j = i := by omega
          rw [← hu]; exact h
      obtain ⟨N, hN⟩ : ∃ N, N = txtB u.name := ⟨_, rfl⟩
      obtain ⟨dm, hdm⟩ : ∃ x, x = u.dim := ⟨_, rfl⟩
      obtain ⟨z, hz⟩ : ∃ x, x = u.size := ⟨_, rfl⟩
      obtain ⟨fl, hfl⟩ : ∃ x, x = u.flag := ⟨_, rfl⟩
      unfold Hid at PU
      rw [← hN] at c0
      rw [← hdm] at c1
      rw [← hz] at c2
      rw [← hfl] at c3
      rw [← hN, ← hdm, ← hz, ← hfl] at PU
      have PU := Lib.hid PU
      have HV : Hid (Value.agg #[.string N, .int .i64 dm, .int .i64 z, .bool fl] = uv u) := by unfold Hid; rw [hN, hdm, hz, hfl]; rfl
      have n1 := below_new wr (.cells #[.string N, .int .i64 dm, .int .i64 z, .bool fl] 86)
      have y1 := heap_alloc_new wr (.cells #[.string N, .int .i64 dm, .int .i64 z, .bool fl] 86)
      have BW := hwr.out.trans (n1.mono hwr.out.size)
      have HBW := Lib.hid BW
      have CU := Lib.hid (PU.out (wr.alloc (.cells #[.string N, .int .i64 dm, .int .i64 z, .bool fl] 86)) (B2.out.trans (BW.mono B2.out.size)))
      obtain ⟨b, hb⟩ : ∃ b, b = p u := ⟨_, rfl⟩
      unfold Hid at CU
      rw [← hb] at CU
      have CU := Lib.hid CU
      have HPB := Lib.hid hb
      have Y1 := Lib.hid y1
      have hrs := Lib.hid hwr.out.size
      clear hu hmem hN hdm hz hfl hb n1 y1 BW PU
      go_wp2_with fail
      refine (CU.out).mono ?_; rintro e w2 ⟨rfl, bw2⟩
      have z2 := carry Y1.out bw2
      have BX := Lib.hid (HBW.out.trans (bw2.mono HBW.out.size))
      have x2 := carry X2.out BX.out
      obtain ⟨k0, k1, k2, k3, _⟩ := at_block4 z2
      obtain ⟨u0, u1, u2, u3, q0, q1, q2, q3⟩ := at_block4 x2
      clear c0 c1 c2 c3 xr z2 x2 bw2
      cases b with
      | true =>
        have HF := Lib.hid (HIT.out HPB.out.symm)
        go_wp2_with fail
        refine bodyPost_ret (v := uv u) (by rw [← HV.out]; simp [results, Tryz.results110, go_sem, u0, u1, u2, u3]) rfl ?_
        rw [HF.out]
        exact ⟨rfl, below4 (B2.out.trans (BX.out.mono B2.out.size)) (Nat.le_refl _) _ _ _ _⟩
      | false =>
        have HF := Lib.hid (MISS.out HPB.out.symm)
        go_wp2_with fail
        go_roundw
        case rel => exact ⟨i + 1, by omega, by go_num, HF, BX⟩
        case measure => simp [intOf]; omega
    · obtain rfl : i = 10 := by omega
      have HF := Lib.hid (first_none hno.out)
      obtain ⟨u0, u1, u2, u3, q0, q1, q2, q3⟩ := at_block4 xr
      go_wp2_with fail
      refine bodyPost_ret (v := uv Un.nil) (by simp [results, Tryz.results110, go_sem, u0, u1, u2, u3, uv, Un.nil, txtB]) rfl ?_
      rw [HF.out]
      first
        | exact ⟨rfl, below4 (B2.out.trans (hwr.out.mono B2.out.size)) (Nat.le_refl _) _ _ _ _⟩
        | exact ⟨rfl, B2.out.trans (hwr.out.mono B2.out.size)⟩

set_option maxHeartbeats 8000000 in
set_option maxRecDepth 100000 in
theorem firstF_v (d a : Int) (ha : 1 ≤ a) (ha2 : a ≤ 1099511627776) (g k : Nat) (w : World) (hc : w.cell? ⟨g, 0, none⟩ = some (.int .i64 d)) (hk : w.cell? ⟨k, 0, none⟩ = some (.int .i64 a)) :
    Calls Tryz.prog 110 #[.func (.func 111) #[] #[.pointer (some ⟨g, 0, none⟩), .pointer (some ⟨k, 0, none⟩)]] w fun e w' => e = .returned (.agg #[.string (txtB (firstU (fun u => u.dim == d && suits u a)).name), .int .i64 (firstU (fun u => u.dim == d && suits u a)).dim, .int .i64 (firstU (fun u => u.dim == d && suits u a)).size, .bool (firstU (fun u => u.dim == d && suits u a)).flag]) ∧ Below w.heap.size w w' := by
  have PC : Hid (∀ u ∈ cU, ∀ w', Below w.heap.size w w' → Calls Tryz.prog 111 #[.agg #[.string (txtB u.name), .int .i64 u.dim, .int .i64 u.size, .bool u.flag], .pointer (some ⟨g, 0, none⟩), .pointer (some ⟨k, 0, none⟩)] w' fun e w2 => e = .returned (.bool ((fun u => u.dim == d && suits u a) u)) ∧ Below w'.heap.size w' w2) := fun u hu w' hb => for1_v hu d a ha ha2 g k w' (cellQ hc hb) (cellQ hk hb)
  obtain ⟨p, hp⟩ : ∃ p : Un → Bool, p = (fun u => u.dim == d && suits u a) := ⟨_, rfl⟩
  unfold Hid at PC
  rw [← hp] at PC ⊢
  have PC := Lib.hid PC
  clear hp hc hk ha ha2
  have B0 := below_new w (.cells #[.string ⟨#[]⟩, .int .i64 0, .int .i64 0, .bool false] 86)
  have x0 := heap_alloc_new w (.cells #[.string ⟨#[]⟩, .int .i64 0, .int .i64 0, .bool false] 86)
  obtain ⟨W1, hW1⟩ : ∃ W, W = w.alloc (.cells #[.string ⟨#[]⟩, .int .i64 0, .int .i64 0, .bool false] 86) := ⟨_, rfl⟩
  rw [← hW1] at B0 x0
  go_enter Tryz.func110, Tryz.ntmps110
  go_wp2_with fail
  rw [← hW1]
  clear hW1
  refine (units_v _).mono ?_; rintro e W2 ⟨g, rfl, hrow, b2⟩
  have X2 := Lib.hid (carry x0 b2)
  have B2 := Lib.hid (B0.trans (b2.mono B0.size))
  have R2 := Lib.hid hrow
  have hsz : w.heap.size < W2.heap.size := (Array.getElem?_eq_some_iff.1 X2.out).1
  have HSZ := Lib.hid hsz
  clear x0 B0 b2 hrow hsz
  go_wp2_with fail
  go_loopw [7] (fun s7 wr => ∃ i : Nat, i ≤ 10 ∧ s7 = .int .i64 (i : Int) ∧ Hid (∀ j : Nat, j < i → p (cU.getD j Un.nil) = false) ∧ Hid (Below W2.heap.size W2 wr)) (fun s7 _ => 10 - (intOf s7).toNat)
  case atStart => exact ⟨0, by omega, rfl, fun j hj => absurd hj (Nat.not_lt_zero _), Below.refl _ _⟩
  case round =>
    obtain ⟨i, hi, rfl, hno, hwr⟩ := hrel
    have xr := carry X2.out hwr.out
    by_cases hlt : i < 10
    · have hlt2 : (i : Int) < 10 := by omega
      obtain ⟨u, hu⟩ : ∃ u, u = cU.getD i Un.nil := ⟨_, rfl⟩
      have hmem : u ∈ cU := by rw [hu]; exact cU_mem hlt
      obtain ⟨c0, c1, c2, c3⟩ := (R2.out.below hwr.out).at (show i < cU.length from hlt)
      rw [← hu] at c0 c1 c2 c3
      have PU := Lib.hid (PC.out u hmem)
      have HIT : Hid (p u = true → firstU p = u) := fun h => by rw [hu] at h ⊢; exact first_hit hlt hno.out h
      have MISS : Hid (p u = false → ∀ j : Nat, j < i + 1 → p (cU.getD j Un.nil) = false) := fun h j hj => by
        rcases Nat.lt_or_ge j i with k | k
        · exact hno.out j k
        · obtain rfl : j = i := by omega
          rw [← hu]; exact h
      obtain ⟨N, hN⟩ : ∃ N, N = txtB u.name := ⟨_, rfl⟩
      obtain ⟨dm, hdm⟩ : ∃ x, x = u.dim := ⟨_, rfl⟩
      obtain ⟨z, hz⟩ : ∃ x, x = u.size := ⟨_, rfl⟩
      obtain ⟨fl, hfl⟩ : ∃ x, x = u.flag := ⟨_, rfl⟩
      unfold Hid at PU
      rw [← hN] at c0
      rw [← hdm] at c1
      rw [← hz] at c2
      rw [← hfl] at c3
      rw [← hN, ← hdm, ← hz, ← hfl] at PU
      have PU := Lib.hid PU
      have HV : Hid (Value.agg #[.string N, .int .i64 dm, .int .i64 z, .bool fl] = uv u) := by unfold Hid; rw [hN, hdm, hz, hfl]; rfl
      have n1 := below_new wr (.cells #[.string N, .int .i64 dm, .int .i64 z, .bool fl] 86)
      have y1 := heap_alloc_new wr (.cells #[.string N, .int .i64 dm, .int .i64 z, .bool fl] 86)
      have BW := hwr.out.trans (n1.mono hwr.out.size)
      have HBW := Lib.hid BW
      have CU := Lib.hid (PU.out (wr.alloc (.cells #[.string N, .int .i64 dm, .int .i64 z, .bool fl] 86)) (B2.out.trans (BW.mono B2.out.size)))
      obtain ⟨b, hb⟩ : ∃ b, b = p u := ⟨_, rfl⟩
      unfold Hid at CU
      rw [← hb] at CU
      have CU := Lib.hid CU
      have HPB := Lib.hid hb
      have Y1 := Lib.hid y1
      have hrs := Lib.hid hwr.out.size
      clear hu hmem hN hdm hz hfl hb n1 y1 BW PU
      go_wp2_with fail
      refine (CU.out).mono ?_; rintro e w2 ⟨rfl, bw2⟩
      have z2 := carry Y1.out bw2
      have BX := Lib.hid (HBW.out.trans (bw2.mono HBW.out.size))
      have x2 := carry X2.out BX.out
      obtain ⟨k0, k1, k2, k3, _⟩ := at_block4 z2
      obtain ⟨u0, u1, u2, u3, q0, q1, q2, q3⟩ := at_block4 x2
      clear c0 c1 c2 c3 xr z2 x2 bw2
      cases b with
      | true =>
        have HF := Lib.hid (HIT.out HPB.out.symm)
        go_wp2_with fail
        refine bodyPost_ret (v := uv u) (by rw [← HV.out]; simp [results, Tryz.results110, go_sem, u0, u1, u2, u3]) rfl ?_
        rw [HF.out]
        exact ⟨rfl, below4 (B2.out.trans (BX.out.mono B2.out.size)) (Nat.le_refl _) _ _ _ _⟩
      | false =>
        have HF := Lib.hid (MISS.out HPB.out.symm)
        go_wp2_with fail
        go_roundw
        case rel => exact ⟨i + 1, by omega, by go_num, HF, BX⟩
        case measure => simp [intOf]; omega
    · obtain rfl : i = 10 := by omega
      have HF := Lib.hid (first_none hno.out)
      obtain ⟨u0, u1, u2, u3, q0, q1, q2, q3⟩ := at_block4 xr
      go_wp2_with fail
      refine bodyPost_ret (v := uv Un.nil) (by simp [results, Tryz.results110, go_sem, u0, u1, u2, u3, uv, Un.nil, txtB]) rfl ?_
      rw [HF.out]
      first
        | exact ⟨rfl, below4 (B2.out.trans (hwr.out.mono B2.out.size)) (Nat.le_refl _) _ _ _ _⟩
        | exact ⟨rfl, B2.out.trans (hwr.out.mono B2.out.size)⟩
end Go.Proofs.YtobiepkhommeaaaGreatDoor
