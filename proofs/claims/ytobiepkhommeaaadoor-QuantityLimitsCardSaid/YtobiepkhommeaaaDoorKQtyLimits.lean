import Derived.Test.YtobiepkhommeaaaDoorQtysB
import Derived.Test.YtobiepkhommeaaaDoorNum
import Derived.Deep.RegionHeld3
import Derived.Deep.CutRange
import Derived.Test.YtobiepkhommeaaaDoorFacts8g
/- QuantityLimits: the walk. -/
namespace Go.Proofs.YtobiepkhommeaaaDoor
open Go.RowKit

/-- a row of seven integers -/
theorem row7 {w : World} {g : Nat} {x0 x1 x2 x3 x4 x5 x6 : Int} {t : TypeId} (h : w.heap[g]? = some (.cells #[.int .i64 x0, .int .i64 x1, .int .i64 x2, .int .i64 x3, .int .i64 x4, .int .i64 x5, .int .i64 x6] t (0, 0))) {i : Nat} (hi : i < 7) (P : Int → Prop) (h0 : P x0) (h1 : P x1) (h2 : P x2) (h3 : P x3) (h4 : P x4) (h5 : P x5) (h6 : P x6) : ∃ x, w.cell? ⟨g, i, none⟩ = some (.int .i64 x) ∧ P x := by
  have : i = 0 ∨ i = 1 ∨ i = 2 ∨ i = 3 ∨ i = 4 ∨ i = 5 ∨ i = 6 := by omega
  rcases this with rfl | rfl | rfl | rfl | rfl | rfl | rfl
  · exact ⟨x0, by simp [World.cell?, h], h0⟩
  · exact ⟨x1, by simp [World.cell?, h], h1⟩
  · exact ⟨x2, by simp [World.cell?, h], h2⟩
  · exact ⟨x3, by simp [World.cell?, h], h3⟩
  · exact ⟨x4, by simp [World.cell?, h], h4⟩
  · exact ⟨x5, by simp [World.cell?, h], h5⟩
  · exact ⟨x6, by simp [World.cell?, h], h6⟩
theorem row6 {w : World} {g : Nat} {t : TypeId} (h : w.heap[g]? = some (.cells #[.int .i64 0, .int .i64 1, .int .i64 2, .int .i64 99, .int .i64 100, .int .i64 101] t (0, 0))) {i : Nat} (hi : i < 6) : ∃ x : Nat, w.cell? ⟨g, i, none⟩ = some (.int .i64 (x : Int)) ∧ x ≤ 101 := by
  have : i = 0 ∨ i = 1 ∨ i = 2 ∨ i = 3 ∨ i = 4 ∨ i = 5 := by omega
  rcases this with rfl | rfl | rfl | rfl | rfl | rfl
  · exact ⟨0, by simp [World.cell?, h], by omega⟩
  · exact ⟨1, by simp [World.cell?, h], by omega⟩
  · exact ⟨2, by simp [World.cell?, h], by omega⟩
  · exact ⟨99, by simp [World.cell?, h], by omega⟩
  · exact ⟨100, by simp [World.cell?, h], by omega⟩
  · exact ⟨101, by simp [World.cell?, h], by omega⟩
def LimR (Q a : Int) (l : List (Option (Value ⊕ (Rat × Nat)))) (i : Nat) (v : Value) (w : World) : Prop :=
  match i with
  | 10 => ∃ g, v = .slice (some ⟨g, 0, none⟩) 7 7 ∧ w.heap[g]? = some (.cells #[.int .i64 0, .int .i64 1, .int .i64 1099511627776, .int .i64 1099511627777, .int .i64 Q, .int .i64 (Q + 1), .int .i64 a] 2 (0, 0))
  | j => SpecR l j v w
theorem LimR.below {Q a : Int} {l : List (Option (Value ⊕ (Rat × Nat)))} (i : Nat) (v : Value) (w w' : World) (h : LimR Q a l i v w) (hb : Below w.heap.size w w') : LimR Q a l i v w' := by
  unfold LimR at h ⊢
  split at h
  · obtain ⟨g, e, hg⟩ := h
    exact ⟨g, e, carry hg hb⟩
  · exact SpecR.below _ v w w' h hb
def LimCut (w : World) (Q a : Int) (v28 v29 v30 : Value) (wx : World) : Prop := ∃ g, v28 = .slice (some ⟨g, 0, none⟩) 7 7 ∧ v29 = .int .i64 7 ∧ v30 = .int .i64 0 ∧ wx.heap[g]? = some (.cells #[.int .i64 0, .int .i64 1, .int .i64 1099511627776, .int .i64 1099511627777, .int .i64 Q, .int .i64 (Q + 1), .int .i64 a] 2 (0, 0)) ∧ Below w.heap.size w wx
structure LimSt (w : World) (gq g : Nat) (r cn Q a : Int) (wr : World) : Prop where
  q : ∃ x : Int, wr.heap[gq]? = some (.cells #[.int .i64 r, .int .i64 cn, .int .i64 x] 23 (0, 0))
  row : wr.heap[g]? = some (.cells #[.int .i64 0, .int .i64 1, .int .i64 1099511627776, .int .i64 1099511627777, .int .i64 Q, .int .i64 (Q + 1), .int .i64 a] 2 (0, 0))
  b : Below w.heap.size w wr
theorem LimSt.below {w : World} {gq g : Nat} {r cn Q a : Int} {wr wx : World} (h : LimSt w gq g r cn Q a wr) (hb : Below wr.heap.size wr wx) : LimSt w gq g r cn Q a wx := by
  obtain ⟨⟨x, hx⟩, h2, h3⟩ := h
  exact ⟨⟨x, carry hx hb⟩, carry h2 hb, h3.trans (hb.mono h3.size)⟩
theorem LimSt.set {w : World} {gq g : Nat} {r cn Q a : Int} {wr : World} (h : LimSt w gq g r cn Q a wr) (hg : w.heap.size ≤ gq) (y : Int) : LimSt w gq g r cn Q a (wr.setCell ⟨gq, 2, none⟩ (.int .i64 y)) ∧ (wr.setCell ⟨gq, 2, none⟩ (.int .i64 y)).heap[gq]? = some (.cells #[.int .i64 r, .int .i64 cn, .int .i64 y] 23 (0, 0)) := by
  obtain ⟨⟨x, hx⟩, h2, h3⟩ := h
  have e : (wr.setCell ⟨gq, 2, none⟩ (.int .i64 y)).heap[gq]? = some (.cells #[.int .i64 r, .int .i64 cn, .int .i64 y] 23 (0, 0)) := by simp [World.setCell, Array.getElem?_modify, hx]
  have hne : g ≠ gq := by
    intro e2
    rw [e2, hx] at h2
    simp at h2
  refine ⟨⟨⟨y, e⟩, ?_, h3.setCell hg _⟩, e⟩
  have : (wr.setCell ⟨gq, 2, none⟩ (.int .i64 y)).heap[g]? = wr.heap[g]? := by simp [World.setCell, Array.getElem?_modify, Ne.symm hne]
  exact this.trans h2
def InI (x : Int) : Prop := -9223372036854775808 ≤ x ∧ x ≤ 9223372036854775807

set_option maxHeartbeats 8000000 in
set_option maxRecDepth 100000 in
theorem QuantityLimits_any (d c a : Int) (w : World) (hd : -9223372036854775808 ≤ d ∧ d ≤ 9223372036854775807) (hc : -9223372036854775808 ≤ c ∧ c ≤ 9223372036854775807) (ha : -9223372036854775808 ≤ a ∧ a ≤ 9223372036854775807) (he : Env w) :
    Calls Tryd.prog 4 #[.int .i64 d, .int .i64 c, .int .i64 a] w fun e w' => e = .returned (.bool true) ∧ Below w.heap.size w w' := by
  obtain ⟨W2, hW2⟩ : ∃ W, W = w.alloc (.cells #[.int .i64 0, .int .i64 1, .int .i64 2, .int .i64 99, .int .i64 100, .int .i64 101] 3) := ⟨_, rfl⟩
  have B2 : Below w.heap.size w W2 := by rw [hW2]; exact below_new _ _
  have s2 : W2.heap.size = w.heap.size + 1 := by rw [hW2]; exact World.size_alloc _ _
  have y2 : W2.heap[w.heap.size]? = some (.cells #[.int .i64 0, .int .i64 1, .int .i64 2, .int .i64 99, .int .i64 100, .int .i64 101] 3 (0, 0)) := by rw [hW2]; exact heap_alloc_new _ _
  have HA : Hid (InI a) := ha
  have Y2 := Lib.hid y2
  have HB2 := Lib.hid B2
  have HS2 := Lib.hid s2
  have EN := Lib.hid he
  clear y2 B2 s2 he ha
  go_enter Tryd.func4, Tryd.ntmps4
  go_wp2_with fail
  refine (Fold_any d 6 (by omega) (by omega) _ 6 rfl).mono ?_; rintro e w1 ⟨r1, rfl, hr1, rfl⟩
  go_wp2_with fail
  rw [← hW2]
  refine (Fold_any c 6 (by omega) (by omega) _ 6 rfl).mono ?_; rintro e w2 ⟨r2, rfl, hr2, rfl⟩
  obtain ⟨cn, hcn, hcn2⟩ := row6 Y2.out hr2
  clear hW2
  have C : Hid (∀ (x : Int), InI x → ∀ w, Calls Tryd.prog 5 #[.agg #[.int .i64 (r1 : Int), .int .i64 (cn : Int), .int .i64 x]] w fun e w' => e = .returned (.int .i64 (qwhy (r1 : Int) (cn : Int) x)) ∧ Below w.heap.size w w') := fun x hx w => Validate_q _ _ _ ⟨by omega, by omega, by omega, by omega, hx.1, hx.2⟩ w
  have C2 : Hid (∀ (x : Int), InI x → ∀ w, Calls Tryd.prog 6 #[.agg #[.int .i64 (r1 : Int), .int .i64 (cn : Int), .int .i64 x]] w fun e w' => e = .returned (.int .i64 (qwhy (r1 : Int) (cn : Int) x)) ∧ Below w.heap.size w w') := fun x hx w => rValidate_q _ _ _ ⟨by omega, by omega, by omega, by omega, hx.1, hx.2⟩ w
  have C3 : Hid (∀ (x : Int), InI x → ∀ w, Calls Tryd.prog 7 #[.agg #[.int .i64 (r1 : Int), .int .i64 (cn : Int), .int .i64 x]] w fun e w' => e = .returned (.int .i64 (qtot (r1 : Int) (cn : Int) x)) ∧ Below w.heap.size w w') := fun x hx w => Total_q _ _ _ ⟨by omega, by omega, by omega, by omega, hx.1, hx.2⟩ w
  have C4 : Hid (∀ (x : Int), InI x → ∀ w, Calls Tryd.prog 8 #[.agg #[.int .i64 (r1 : Int), .int .i64 (cn : Int), .int .i64 x]] w fun e w' => e = .returned (.int .i64 (qtot (r1 : Int) (cn : Int) x)) ∧ Below w.heap.size w w') := fun x hx w => rTotal_q _ _ _ ⟨by omega, by omega, by omega, by omega, hx.1, hx.2⟩ w
  obtain ⟨k, hk⟩ : ∃ k : Nat, k = max cn 1 := ⟨_, rfl⟩
  have hk1 : 1 ≤ k := by omega
  have hmx : max (cn : Int) 1 = (k : Int) := by omega
  obtain ⟨Q, hQ⟩ : ∃ Q : Nat, Q = 1099511627776 / k := ⟨_, rfl⟩
  have hQb : Q ≤ 1099511627776 := by rw [hQ]; exact Nat.div_le_self _ _
  have hqt : Int.tdiv 1099511627776 (k : Int) = (Q : Int) := by rw [Int.tdiv_eq_ediv_of_nonneg (by omega), hQ]; exact (Int.natCast_ediv 1099511627776 k).symm
  have hqw : IntKind.i64.wrap (Q : Int) = (Q : Int) := IntWalk.i64_in _ (by omega)
  have hqw1 : IntKind.i64.wrap ((Q : Int) + 1) = (Q : Int) + 1 := IntWalk.i64_in _ (by omega)
  have hkz : ((k : Int) == 0) = false := by rw [beq_eq_false_iff_ne]; omega
  have hk0 : ¬ (k : Int) = 0 := by omega
  have hk00 : ¬ k = 0 := by omega
  have n3 := below_new W2 (.cells #[.int .i64 (r1 : Int), .int .i64 (cn : Int), .int .i64 0] 23)
  have x3 := heap_alloc_new W2 (.cells #[.int .i64 (r1 : Int), .int .i64 (cn : Int), .int .i64 0] 23)
  obtain ⟨W3, hW3⟩ : ∃ W, W = W2.alloc (.cells #[.int .i64 (r1 : Int), .int .i64 (cn : Int), .int .i64 0] 23) := ⟨_, rfl⟩
  have s3 : W3.heap.size = W2.heap.size + 1 := by rw [hW3]; exact World.size_alloc _ _
  rw [← hW3] at n3 x3
  obtain ⟨gq, hgq⟩ : ∃ g, g = W2.heap.size := ⟨_, rfl⟩
  rw [← hgq] at x3 s3
  have B3 := Lib.hid (HB2.out.trans (n3.mono HB2.out.size))
  obtain ⟨k0, k1, k2, _⟩ := at_blockQ x3
  have hr2i : (r2 : Int) < 6 := by omega
  clear n3 hQ hk hr1 hcn2 hd hc
  have X3 := Lib.hid x3
  have HGQ := Lib.hid hgq
  have HS3 := Lib.hid s3
  have HQ9 := Lib.hid (And.intro hmx (And.intro hqt (And.intro hqw hqw1)))
  go_upto_region 2 with fail
  rw [← hW3, ← hgq]
  clear hW3 hgq
  refine wp_region_any (by kernel_rfl) ?_
  refine region_ssa [18, 19, 20, 21, 22, 23, 24, 25, 26, 27, 28, 29, 30] (Below W3.heap.size W3) (fun w1 w2 => Below w1.heap.size w1 w2) (LimR (Q : Int) a [some (.inl (.pointer (some ⟨gq, 1, none⟩))), some (.inl (.int .i64 (cn : Int))), some (.inl (.int .i64 (k : Int))), some (.inl (.int .i64 (Q : Int))), some (.inl (.pointer (some ⟨gq, 1, none⟩))), some (.inl (.int .i64 (cn : Int))), some (.inl (.int .i64 (k : Int))), some (.inl (.int .i64 (Q : Int))), some (.inl (.int .i64 ((Q : Int) + 1))), some (.inl (.int .i64 a)), none, some (.inl (.int .i64 7)), some (.inl (.int .i64 0))]) (fun _ _ _ => True) (fun f => rfl) (by kernel_rfl) (by kernel_rfl) ?_ ?_ ?_ ?_ (AllFrom.below (n := 13) ?_) ?_
  · exact (Below.refl _ _).drew
  · intro f; exact True.intro
  · intro i v w1 w2 _ h hb; exact LimR.below i v w1 w2 h hb
  · intro w1 w2 hB hE; exact hB.trans (hE.mono hB.size)
  · refine AllFrom.step (m := 12) (j := 1) rfl ?_ ?_
    · intro D f w1 hD hB hR hp hcl hX
      refine wpOp_step rfl (fun K hK => ?_)
      simp only [putAll, Act.put, List.setIfInBounds_toArray, List.set_cons_succ, List.set_cons_zero]
      go_simp
      exact hK _ _ ⟨(.pointer (some ⟨gq, 1, none⟩)), (by show _ = Act.put _ (some 18) _; simp only [putAll, Act.put, List.setIfInBounds_toArray, List.set_cons_succ, List.set_cons_zero, *]), rfl, Below.refl _ _, trivial⟩
    refine AllFrom.step (m := 11) (j := 2) rfl ?_ ?_
    · intro D f w1 hD hB hR hp hcl hX
      have e0 : f 18 = (.pointer (some ⟨gq, 1, none⟩)) := (hp_at hp 0 (by kernel_rfl)).2
      obtain ⟨k0, k1, k2, _⟩ := at_blockQ (carry X3.out hB)
      refine wpOp_step rfl (fun K hK => ?_)
      simp only [putAll, Act.put, List.setIfInBounds_toArray, List.set_cons_succ, List.set_cons_zero]
      go_simp
      exact hK _ _ ⟨(.int .i64 (cn : Int)), (by show _ = Act.put _ (some 19) _; simp only [putAll, Act.put, List.setIfInBounds_toArray, List.set_cons_succ, List.set_cons_zero, *]), rfl, Below.refl _ _, trivial⟩
    refine AllFrom.step (m := 10) (j := 3) rfl ?_ ?_
    · intro D f w1 hD hB hR hp hcl hX
      have e1 : f 19 = (.int .i64 (cn : Int)) := (hp_at hp 1 (by kernel_rfl)).2
      refine wpOp_step rfl (fun K hK => ?_)
      simp only [putAll, Act.put, List.setIfInBounds_toArray, List.set_cons_succ, List.set_cons_zero]
      go_simp
      exact hK _ _ ⟨(.int .i64 (k : Int)), (by show _ = Act.put _ (some 20) _; simp only [putAll, Act.put, List.setIfInBounds_toArray, List.set_cons_succ, List.set_cons_zero, *]), rfl, Below.refl _ _, trivial⟩
    refine AllFrom.step (m := 9) (j := 4) rfl ?_ ?_
    · intro D f w1 hD hB hR hp hcl hX
      have e2 : f 20 = (.int .i64 (k : Int)) := (hp_at hp 2 (by kernel_rfl)).2
      refine wpOp_step rfl (fun K hK => ?_)
      simp only [putAll, Act.put, List.setIfInBounds_toArray, List.set_cons_succ, List.set_cons_zero]
      go_simp
      exact hK _ _ ⟨(.int .i64 (Q : Int)), (by show _ = Act.put _ (some 21) _; simp only [putAll, Act.put, List.setIfInBounds_toArray, List.set_cons_succ, List.set_cons_zero, *]), rfl, Below.refl _ _, trivial⟩
    refine AllFrom.step (m := 8) (j := 5) rfl ?_ ?_
    · intro D f w1 hD hB hR hp hcl hX
      refine wpOp_step rfl (fun K hK => ?_)
      simp only [putAll, Act.put, List.setIfInBounds_toArray, List.set_cons_succ, List.set_cons_zero]
      go_simp
      exact hK _ _ ⟨(.pointer (some ⟨gq, 1, none⟩)), (by show _ = Act.put _ (some 22) _; simp only [putAll, Act.put, List.setIfInBounds_toArray, List.set_cons_succ, List.set_cons_zero, *]), rfl, Below.refl _ _, trivial⟩
    refine AllFrom.step (m := 7) (j := 6) rfl ?_ ?_
    · intro D f w1 hD hB hR hp hcl hX
      have e4 : f 22 = (.pointer (some ⟨gq, 1, none⟩)) := (hp_at hp 4 (by kernel_rfl)).2
      obtain ⟨k0, k1, k2, _⟩ := at_blockQ (carry X3.out hB)
      refine wpOp_step rfl (fun K hK => ?_)
      simp only [putAll, Act.put, List.setIfInBounds_toArray, List.set_cons_succ, List.set_cons_zero]
      go_simp
      exact hK _ _ ⟨(.int .i64 (cn : Int)), (by show _ = Act.put _ (some 23) _; simp only [putAll, Act.put, List.setIfInBounds_toArray, List.set_cons_succ, List.set_cons_zero, *]), rfl, Below.refl _ _, trivial⟩
    refine AllFrom.step (m := 6) (j := 7) rfl ?_ ?_
    · intro D f w1 hD hB hR hp hcl hX
      have e5 : f 23 = (.int .i64 (cn : Int)) := (hp_at hp 5 (by kernel_rfl)).2
      refine wpOp_step rfl (fun K hK => ?_)
      simp only [putAll, Act.put, List.setIfInBounds_toArray, List.set_cons_succ, List.set_cons_zero]
      go_simp
      exact hK _ _ ⟨(.int .i64 (k : Int)), (by show _ = Act.put _ (some 24) _; simp only [putAll, Act.put, List.setIfInBounds_toArray, List.set_cons_succ, List.set_cons_zero, *]), rfl, Below.refl _ _, trivial⟩
    refine AllFrom.step (m := 5) (j := 8) rfl ?_ ?_
    · intro D f w1 hD hB hR hp hcl hX
      have e6 : f 24 = (.int .i64 (k : Int)) := (hp_at hp 6 (by kernel_rfl)).2
      refine wpOp_step rfl (fun K hK => ?_)
      simp only [putAll, Act.put, List.setIfInBounds_toArray, List.set_cons_succ, List.set_cons_zero]
      go_simp
      exact hK _ _ ⟨(.int .i64 (Q : Int)), (by show _ = Act.put _ (some 25) _; simp only [putAll, Act.put, List.setIfInBounds_toArray, List.set_cons_succ, List.set_cons_zero, *]), rfl, Below.refl _ _, trivial⟩
    refine AllFrom.step (m := 4) (j := 9) rfl ?_ ?_
    · intro D f w1 hD hB hR hp hcl hX
      have e7 : f 25 = (.int .i64 (Q : Int)) := (hp_at hp 7 (by kernel_rfl)).2
      refine wpOp_step rfl (fun K hK => ?_)
      simp only [putAll, Act.put, List.setIfInBounds_toArray, List.set_cons_succ, List.set_cons_zero]
      go_simp
      exact hK _ _ ⟨(.int .i64 ((Q : Int) + 1)), (by show _ = Act.put _ (some 26) _; simp only [putAll, Act.put, List.setIfInBounds_toArray, List.set_cons_succ, List.set_cons_zero, *]), rfl, Below.refl _ _, trivial⟩
    refine AllFrom.step (m := 3) (j := 10) rfl ?_ ?_
    · intro D f w1 hD hB hR hp hcl hX
      refine wpOp_step rfl (fun K hK => ?_)
      simp only [putAll, Act.put, List.setIfInBounds_toArray, List.set_cons_succ, List.set_cons_zero]
      go_simp
      exact hK _ _ ⟨(.int .i64 a), (by show _ = Act.put _ (some 27) _; simp only [putAll, Act.put, List.setIfInBounds_toArray, List.set_cons_succ, List.set_cons_zero, *]), rfl, Below.refl _ _, trivial⟩
    refine AllFrom.step (m := 2) (j := 11) rfl ?_ ?_
    · intro D f w1 hD hB hR hp hcl hX
      have e3 : f 21 = (.int .i64 (Q : Int)) := (hp_at hp 3 (by kernel_rfl)).2
      have e8 : f 26 = (.int .i64 ((Q : Int) + 1)) := (hp_at hp 8 (by kernel_rfl)).2
      have e9 : f 27 = (.int .i64 a) := (hp_at hp 9 (by kernel_rfl)).2
      refine wpOp_step rfl (fun K hK => ?_)
      simp only [putAll, Act.put, List.setIfInBounds_toArray, List.set_cons_succ, List.set_cons_zero]
      go_simp
      exact hK _ _ ⟨.slice (some ⟨w1.heap.size, 0, none⟩) 7 7, (by show _ = Act.put _ (some 28) _; simp only [putAll, Act.put, List.setIfInBounds_toArray, List.set_cons_succ, List.set_cons_zero, *]), ⟨w1.heap.size, rfl, heap_alloc_new _ _⟩, below_new _ _, trivial⟩
    refine AllFrom.step (m := 1) (j := 12) rfl ?_ ?_
    · intro D f w1 hD hB hR hp hcl hX
      obtain ⟨g9, eg, hx9⟩ := (hp_at hp 10 (by kernel_rfl)).2
      replace eg : f 28 = _ := eg
      refine wpOp_step rfl (fun K hK => ?_)
      simp only [putAll, Act.put, List.setIfInBounds_toArray, List.set_cons_succ, List.set_cons_zero]
      go_simp
      exact hK _ _ ⟨(.int .i64 7), (by show _ = Act.put _ (some 29) _; simp only [putAll, Act.put, List.setIfInBounds_toArray, List.set_cons_succ, List.set_cons_zero, *]), rfl, Below.refl _ _, trivial⟩
    refine AllFrom.step (m := 0) (j := 13) rfl ?_ ?_
    · intro D f w1 hD hB hR hp hcl hX
      refine wpOp_step rfl (fun K hK => ?_)
      simp only [putAll, Act.put, List.setIfInBounds_toArray, List.set_cons_succ, List.set_cons_zero]
      go_simp
      exact hK _ _ ⟨(.int .i64 0), (by show _ = Act.put _ (some 30) _; simp only [putAll, Act.put, List.setIfInBounds_toArray, List.set_cons_succ, List.set_cons_zero, *]), rfl, Below.refl _ _, trivial⟩
    exact AllFrom.nil
  · intro D f w1 hall hB hR hX
    simp only [putAll, Act.put, List.setIfInBounds_toArray, List.set_cons_succ, List.set_cons_zero]
    obtain ⟨g, e28, hrow⟩ := hR 10 (by decide)
    have e29 : f 29 = .int .i64 7 := hR 11 (by decide)
    have e30 : f 30 = .int .i64 0 := hR 12 (by decide)
    replace e28 : f 28 = _ := e28
    rw [e28, e29, e30]
    generalize f 18 = f18
    generalize f 19 = f19
    generalize f 20 = f20
    generalize f 21 = f21
    generalize f 22 = f22
    generalize f 23 = f23
    generalize f 24 = f24
    generalize f 25 = f25
    generalize f 26 = f26
    generalize f 27 = f27
    clear hall hR hX e28 e29 e30 f
    have hbl := hB
    obtain ⟨wc, hwc⟩ : ∃ x, x = w1 := ⟨_, rfl⟩
    rw [← hwc] at hrow hbl ⊢
    clear hB hwc w1
    have hgw : w.heap.size ≤ gq := by have := HGQ.out; have := HS2.out; omega
    have ST0 : Hid (LimSt w gq g (r1 : Int) (cn : Int) (Q : Int) a wc) := ⟨⟨0, carry X3.out hbl⟩, hrow, B3.out.trans (hbl.mono B3.out.size)⟩
    have ROW : Hid (∀ wr, LimSt w gq g (r1 : Int) (cn : Int) (Q : Int) a wr → ∀ i : Nat, i < 7 → ∃ x, wr.cell? ⟨g, i, none⟩ = some (.int .i64 x) ∧ InI x) := fun wr h i hi => row7 h.row hi InI ⟨by omega, by omega⟩ ⟨by omega, by omega⟩ ⟨by omega, by omega⟩ ⟨by omega, by omega⟩ ⟨by omega, by omega⟩ ⟨by omega, by omega⟩ HA.out
    clear hrow hbl hmx hqt hqw hqw1 hkz hk0 hk00 hk1 hQb k0 k1 k2
    go_wp2_with fail
    go_loopw [30] (fun s30 wr => ∃ i : Nat, i ≤ 7 ∧ s30 = .int .i64 (i : Int) ∧ Hid (LimSt w gq g (r1 : Int) (cn : Int) (Q : Int) a wr)) (fun s30 _ => 7 - (intOf s30).toNat)
    case atStart => exact ⟨0, by omega, rfl, ST0.out⟩
    case round =>
      obtain ⟨i, hi, rfl, hst⟩ := hrel
      by_cases hlt : i < 7
      · have hlt2 : (i : Int) < 7 := by omega
        obtain ⟨x, cx, hx⟩ := ROW.out wr hst.out i hlt
        obtain ⟨y, hq⟩ := hst.out.q
        obtain ⟨k0, k1, k2, p0, p1, p2⟩ := at_blockQ hq
        have S2 := hst.out.set hgw x
        have D1 := Lib.hid (C.out x hx)
        have D2 := Lib.hid (C2.out x hx)
        have D3 := Lib.hid (C3.out x hx)
        have D4 := Lib.hid (C4.out x hx)
        obtain ⟨yq, hyq⟩ : ∃ z, z = qwhy (r1 : Int) (cn : Int) x := ⟨_, rfl⟩
        obtain ⟨tq, htq⟩ : ∃ z, z = qtot (r1 : Int) (cn : Int) x := ⟨_, rfl⟩
        unfold Hid at D1 D2 D3 D4
        rw [← hyq] at D1 D2
        rw [← htq] at D3 D4
        have D1 := Lib.hid D1
        have D2 := Lib.hid D2
        have D3 := Lib.hid D3
        have D4 := Lib.hid D4
        obtain ⟨W5, hW5⟩ : ∃ W, W = wr.setCell ⟨gq, 2, none⟩ (.int .i64 x) := ⟨_, rfl⟩
        rw [← hW5] at S2
        have HST := Lib.hid S2.1
        have K : Hid (∀ w', Below W5.heap.size W5 w' → w'.cell? ⟨gq, 0, none⟩ = some (.int .i64 (r1 : Int)) ∧ w'.cell? ⟨gq, 1, none⟩ = some (.int .i64 (cn : Int)) ∧ w'.cell? ⟨gq, 2, none⟩ = some (.int .i64 x) ∧ Below W5.heap.size W5 w') := fun w' gg => by
          obtain ⟨k0, k1, k2, _⟩ := at_blockQ (carry S2.2 gg)
          exact ⟨k0, k1, k2, gg⟩
        clear hq S2 hyq htq hx
        go_upto_region 6 with fail
        rw [← hW5]
        clear hW5 k0 k1 k2 p0 p1 p2 cx
        go_region_held3 (fun w' => w'.cell? ⟨gq, 0, none⟩ = some (.int .i64 (r1 : Int)) ∧ w'.cell? ⟨gq, 1, none⟩ = some (.int .i64 (cn : Int)) ∧ w'.cell? ⟨gq, 2, none⟩ = some (.int .i64 x) ∧ Below W5.heap.size W5 w')
          (first | exact K.out _ (Below.refl _ _).drew | exact K.out _ (Below.refl _ _) | exact K.out _ (keepB b1 (by assumption) (Nat.le_refl _)) | exact K.out _ (keepB b2 (by assumption) (Nat.le_refl _)) | exact K.out _ (keepB b3 (by assumption) (Nat.le_refl _)) | exact K.out _ (keepB b4 (by assumption) (Nat.le_refl _)))
          (first
            | (go_at_call 5; go_split_ands; refine (D1.out _).mono ?_; rintro e w1 ⟨rfl, b1⟩)
            | (go_at_call 6; go_split_ands; refine (D2.out _).mono ?_; rintro e w2 ⟨rfl, b2⟩)
            | (go_at_call 7; go_split_ands; refine (D3.out _).mono ?_; rintro e w3 ⟨rfl, b3⟩)
            | (go_at_call 8; go_split_ands; refine (D4.out _).mono ?_; rintro e w4 ⟨rfl, b4⟩; have BV : Below W5.heap.size W5 w4 := keepB b4 (by assumption) (Nat.le_refl _)))
        have HN := Lib.hid (HST.out.below BV)
        go_wp2_with fail
        go_roundw
        case rel => exact ⟨i + 1, by omega, by go_num, HN⟩
        case measure => simp [intOf]; omega
      · obtain rfl : i = 7 := by omega
        have BW := Lib.hid hst.out.b
        have AW := Lib.hid (awake8_v wr (EN.out.below BW.out))
        go_wp2_with fail
        refine AW.out.mono ?_; rintro e w9 ⟨rfl, b9⟩
        have B9 := Lib.hid (BW.out.trans (b9.mono BW.out.size))
        clear b9
        go_wp2_with fail
        go_ret
        exact ⟨rfl, B9.out⟩
end Go.Proofs.YtobiepkhommeaaaDoor
/- QuantityLimits holds for every input: quantities about the limits answer as the reference; no condition. -/
namespace Go.Proofs.YtobiepkhommeaaaDoor.lawQtyLimits
open Go.ChangeShapes Go.WideShapes Go.ChangeAt Go.RowKit

set_option maxRecDepth 100000 in
set_option maxHeartbeats 1000000 in
theorem contract (H : Type) (enc : TypeId × Value → H) (W : World) (base : Nat) (args : Array Value) (ds gs : List (DataW H)) (before : List MemPlace)
    (hval : ∀ (j : Nat) t v, Tryd.f4.params[j]? = some t → args[j]? = some v → Value.okWide Tryd.prog W .any base t v)
    (hW : DataW.Whole enc Tryd.prog Tryd.f4.params.toList Rows.quantityLimitsSpec.vars false W args.toList ds gs before) (hL : laidMetH Tryd.prog Rows.quantityLimitsRow.laid W) (hsh : W.ShapedOpen Tryd.prog) :
    Calls Tryd.prog 4 args W fun e W' => ∃ v, e = .returned v ∧ Rows.quantityLimitsSpec.post enc Tryd.prog Tryd.f4 false true false false W args v W' := by
  have hW' := hW
  obtain ⟨p, q, hA0, _, _, _, _⟩ := hW
  have hA : DataW.TrodAll enc Tryd.prog W 0 (fun _ => true) true Tryd.f4.params.toList args.toList ds p := hA0
  rw [Tryd.params4] at hA hval
  obtain ⟨v0, vs0, d0, ds0, p0, q0, hargs, rfl, rfl, h0, r0⟩ := trodAll_cons hA
  obtain ⟨v1, vs1, d1, ds1, p1, q1, rfl, rfl, rfl, h1, r1⟩ := trodAll_cons r0
  obtain ⟨v2, vs2, d2, ds2, p2, q2, rfl, rfl, rfl, h2, r2⟩ := trodAll_cons r1
  obtain ⟨rfl, rfl, rfl⟩ := trodAll_nil r2
  obtain rfl : args = #[v0, v1, v2] := by cases args; simp_all
  obtain ⟨x0, rfl, _, _, wx0⟩ := open_int Tryd.underlying3 (hval 0 3 v0 rfl rfl) h0
  have wb0 : -9223372036854775808 ≤ x0 ∧ x0 ≤ 9223372036854775807 := by
    have e1 : IntKind.i64.min = -9223372036854775808 := rfl
    have e2 : IntKind.i64.max = 9223372036854775807 := rfl
    simp [Lit.wf] at wx0
    omega
  obtain ⟨x1, rfl, _, _, wx1⟩ := open_int Tryd.underlying3 (hval 1 3 v1 rfl rfl) h1
  have wb1 : -9223372036854775808 ≤ x1 ∧ x1 ≤ 9223372036854775807 := by
    have e1 : IntKind.i64.min = -9223372036854775808 := rfl
    have e2 : IntKind.i64.max = 9223372036854775807 := rfl
    simp [Lit.wf] at wx1
    omega
  obtain ⟨x2, rfl, _, _, wx2⟩ := open_int Tryd.underlying3 (hval 2 3 v2 rfl rfl) h2
  have wb2 : -9223372036854775808 ≤ x2 ∧ x2 ≤ 9223372036854775807 := by
    have e1 : IntKind.i64.min = -9223372036854775808 := rfl
    have e2 : IntKind.i64.max = 9223372036854775807 := rfl
    simp [Lit.wf] at wx2
    omega
  refine (QuantityLimits_any x0 x1 x2 W wb0 wb1 wb2 (env_of (tab_of5 hL) hsh)).mono ?_
  rintro e W' ⟨rfl, hb⟩
  exact ⟨_, rfl, law_post hW' rfl rfl rfl (by rw [Tryd.params4]; exact facts.readable_of8 (by decide)) hb⟩

theorem laid_met (os : Os) : laidMet Tryd.prog Rows.quantityLimitsRow.laid ((laidWorld5 os).forCall (fun _ _ => 0) ⟨#[], #[.int .i64 0, .int .i64 0, .int .i64 0], []⟩).memory :=
  laidMet_of_run' 8 (by kernel_rfl) (by kernel_rfl)
theorem reads (os : Os) {H : Type} (enc : TypeId × Value → H) : ∃ places, DataW.whole enc Tryd.prog ((laidWorld5 os).forCall (fun _ _ => 0) ⟨#[], #[.int .i64 0, .int .i64 0, .int .i64 0], []⟩).memory Tryd.f4.params.toList Rows.quantityLimitsSpec.vars false #[Value.int .i64 0, .int .i64 0, .int .i64 0].toList 8 = some ([.lit (.int .i64 0), .lit (.int .i64 0), .lit (.int .i64 0)], [], places) :=
  ⟨[], by kernel_rfl⟩

set_option maxRecDepth 100000 in
set_option maxHeartbeats 2000000 in
theorem lifted (os : Os) (started : os.Started) (H : Type) (enc : TypeId × Value → H) (F : Stop.Interp) :
    ReturnsInHanded {} Tryd.checked os 4 .any ((OpenSpec.ofChange Rows.quantityLimitsSpec).preRow enc Tryd.prog Tryd.f4 Rows.quantityLimitsRow.domain false Rows.quantityLimitsRow.laid) (((OpenSpec.ofChange Rows.quantityLimitsSpec).at F).post enc Tryd.prog Tryd.f4 false true false false) := by
  obtain ⟨places, hx⟩ := reads os enc
  refine returnsInHanded_of_row (C := Tryd.checked) (s := OpenSpec.ofChange Rows.quantityLimitsSpec) fr_own started (by kernel_rfl) Tryd.func4
    (witness_row_at (enc := enc) (C := Tryd.checked) false (laidWorld5 os) #[.int .i64 0, .int .i64 0, .int .i64 0] rfl (by kernel_rfl) (by kernel_rfl) (by kernel_rfl)
      (OpenSpec.preRow_of_cond 8 hx (by kernel_rfl) (fun k hk => by cases hk) (by kernel_rfl) (laid_met os))) ?_
  intro W base args ds gs before hval hW _ _ _ hL hsh _
  exact contract H enc W base args ds gs before hval hW hL hsh

set_option maxHeartbeats 8000000 in
theorem closed : joinedFacts Tryd.prog 4 Tryd.f4 Rows.quantityLimitsSpec Rows.quantityLimitsRow = true := by
  unfold joinedFacts
  repeat' (with_reducible refine facts.and_mk ?_ ?_)
  all_goals first
    | (with_reducible exact facts.laidOut) | (with_reducible exact facts.rowed) | (with_reducible exact facts.stops) | (with_reducible exact facts.stopKnobs) | (with_reducible exact facts.stopsHeard) | (with_reducible exact facts.mayEnter)
    | ((with_reducible refine facts.plainKeys_of ?_); rfl) | ((with_reducible refine facts.lifted_of ?_); rfl) | ((with_reducible refine facts.make_of ?_); rfl)
    | (as_aux_lemma => kernel_rfl)

set_option maxRecDepth 100000 in
theorem said : Rows.QuantityLimitsSaid :=
  OpenClaim.holds_of_cond 4 Tryd.f4 rfl rfl rfl rfl rfl rfl rfl ⟨rfl, rfl, rfl, rfl, rfl⟩ rfl rfl rfl rfl rfl (by kernel_rfl) Tryd.func4 closed
    (of_decide_eq_true (by kernel_rfl)) (by unfold Func.isWrapper; first | (rw [if_pos (by decide +kernel)]; kernel_rfl) | (rw [if_neg (by decide +kernel)]; exact ⟨rfl, rfl⟩))
    (fun os started H enc _ F => by rw [OpenClaim.pre_eq_preRow]; exact lifted os started H enc F)

theorem plain (f : FuncId) (fn : Func) (hf : Tryd.pinned.checked.prog.funcNamed "priceoffice/priceofficelaw08.QuantityLimits" = some f) (hfn : Tryd.pinned.checked.prog.funcs[f]? = some fn) :
    Rows.quantityValidCard.stood.looks = Tryd.pinned.checked.prog.looks [] ∧ ∀ (j : Nat) t, fn.params[j]? = some t → Tryd.pinned.checked.prog.wantsStandIn t = false := by
  obtain rfl : f = 4 := Option.some.inj ((show Tryd.prog.funcNamed "priceoffice/priceofficelaw08.QuantityLimits" = some 4 by kernel_rfl).symm.trans hf) |>.symm
  obtain rfl : fn = Tryd.f4 := (Option.some.inj (Tryd.func4.symm.trans hfn)).symm
  refine ⟨facts.looks, fun j t ht => ?_⟩
  rw [Tryd.params4] at ht
  exact facts.standIn_of8 (by decide) j t ht

theorem card : Rows.QuantityLimitsCardSaid :=
  Claim7.holds_tied_plain_at .later [] _ _ _ _ said (fun _ h => by cases h) (by kernel_rfl) (fun _ h => by cases h) quantityLimits_row_tie rfl ⟨rfl, rfl⟩ facts.mainIs rfl plain (by kernel_rfl)
end Go.Proofs.YtobiepkhommeaaaDoor.lawQtyLimits
