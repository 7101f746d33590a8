import Derived.Test.YtffnmejabphabaaDoorLawCalDates
/- What the calendar's laws share: raw numbers folded; both sides of a function at any number. -/
namespace Go.Proofs.YtffnmejabphabaaDoor
open Go.RowKit Go.Sort

theorem Fold_v (v : Int) (k : Nat) (hk : 1 ≤ k) (hk2 : k ≤ 1000000) (w : World) (n : Int) (hn : n = k) :
    Calls Tryd.prog 19 #[.int .i64 v, .int .i64 n] w fun e w' => ∃ r : Nat, e = .returned (.int .i64 (r : Int)) ∧ r < k ∧ w = w' := by
  subst hn
  obtain ⟨u, hu⟩ : ∃ u : Nat, u = (IntKind.u64.wrap v).toNat := ⟨_, rfl⟩
  have hb : 0 ≤ IntKind.u64.wrap v ∧ IntKind.u64.wrap v ≤ 18446744073709551615 := by rw [IntKind.wrap_u64]; omega
  have hw : IntKind.u64.wrap v = (u : Int) := by omega
  have hub : (u : Int) ≤ 18446744073709551615 := by omega
  have hr : u % k < k := Nat.mod_lt _ (by omega)
  have he : (u : Int) % (k : Int) = ((u % k : Nat) : Int) := (Int.natCast_emod u k).symm
  have E := Lib.hid he
  have hrb0 : 0 ≤ (u : Int) % (k : Int) := by omega
  have hrb : (u : Int) % (k : Int) ≤ 1000000 := by omega
  have hmx : max (k : Int) 1 = (k : Int) := by omega
  clear hu hb he
  go_enter Tryd.func19, Tryd.ntmps19
  go_wp2
  go_ret
  exact ⟨u % k, ret_i64c E.out, hr, rfl⟩

/-- the function f gives a at x and makes memory at most -/
def Gives (f : Nat) (x a : Int) : Prop := ∀ w, Calls Tryd.prog f #[.int .i64 x] w fun e w' => e = .returned (.int .i64 a) ∧ Below w.heap.size w w'
theorem gives_q {f : Nat} {x a : Int} (h : ∀ w, Calls Tryd.prog f #[.int .i64 x] w fun e w' => e = .returned (.int .i64 a) ∧ w = w') : Gives f x a := fun w =>
  (h w).mono fun _ _ h => ⟨h.1, h.2 ▸ Below.refl _ _⟩
theorem gives_g {f : Nat} {x a : Int} (h : ∀ w, Calls Tryd.prog f #[.int .i64 x] w fun e w' => e = .returned (.int .i64 a) ∧ Gr w w') : Gives f x a := fun w =>
  (h w).mono fun _ _ h => ⟨h.1, h.2.below⟩
theorem months_at (x : Int) : ∃ a b c d : Int, Hid (Gives 26 x a) ∧ Hid (Gives 27 x a) ∧ Hid (Gives 28 x b) ∧ Hid (Gives 29 x b) ∧
    Hid (Gives 30 x c) ∧ Hid (Gives 31 x c) ∧ Hid (Gives 32 x d) ∧ Hid (Gives 33 x d) := by
  by_cases h : x < 0 ∨ 5999 < x
  · exact ⟨0, -1, -1, -1, gives_q (Month_out x h), gives_q (rMonth_out x h), gives_q (FirstDay_out x h), gives_q (rFirstDay_out x h), gives_q (LastDay_out x h), gives_q (rLastDay_out x h), gives_q (December_out x h), gives_q (rDecember_out x h)⟩
  · obtain ⟨n, hn⟩ := Int.eq_ofNat_of_zero_le (show 0 ≤ x by omega)
    have hn6 : n < 6000 := by omega
    have hp : x = 12 * ((n / 12 : Nat) : Int) + ((n % 12 : Nat) : Int) := by omega
    have hr : n % 12 < 12 := by omega
    have hk : n / 12 < 500 := by omega
    exact ⟨_, _, _, _, gives_q (Month_in x _ _ hp hr hk), gives_q (rMonth_in x _ _ hp hr hk), gives_g (FirstDay_n x n hn hn6), gives_q (rFirstDay_in x n hn hn6), gives_g (LastDay_n x n hn hn6), gives_q (rLastDay_in x n hn hn6),
      gives_q (December_in x _ _ hp hr hk), gives_q (rDecember_in x _ _ hp hr hk)⟩
end Go.Proofs.YtffnmejabphabaaDoor
