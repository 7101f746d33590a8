import Derived.Test.YtffnmejabphabaaDoorCtx5
/- The reference of package calendar: periods read off a text. -/
namespace Go.Proofs.YtffnmejabphabaaDoor
open Go.RowKit Go.Sort

theorem size_listc (s : ByteArray) : s.data.toList.length = s.size := by simp
theorem per_of_day {s : ByteArray} (h7 : s.size = 7) {y m d x : Int} (h : DayOf (s ++ (⟨#[45, 48, 49]⟩ : ByteArray)) y m d x) :
    (x = 0 ∧ ∃ k r : Nat, k < 500 ∧ r < 12 ∧ y = 1900 + (k : Int) ∧ m = (r : Int) + 1 ∧ s = perT k r) ∨ (x = 54 ∧ PerOf s 0 54) := by
  have hl : (s ++ (⟨#[45, 48, 49]⟩ : ByteArray)).data.toList = s.data.toList ++ [45, 48, 49] := by simp
  rcases h with ⟨k, r, i, hk, hr, hi, hm, hs, rfl, rfl, rfl, rfl⟩ | ⟨hn, rfl, rfl, rfl, rfl⟩
  · refine .inl ⟨rfl, k, r, hk, hr, rfl, rfl, ?_⟩
    have e : s.data.toList ++ [45, 48, 49] = perL k r ++ ([45] ++ tw i) := by rw [← hl, hs]; rfl
    have := (List.append_inj e (by rw [size_listc, h7]; rfl)).1
    exact ba_ext (this.trans (perT_list k r).symm)
  · refine .inr ⟨rfl, .inr ⟨fun k r hk hr e => ?_, rfl, rfl⟩⟩
    have hm := mlI_bd (1900 + (k : Int)) ((r : Int) + 1)
    refine hn k r 1 hk hr (by omega) (by omega) (ba_ext ?_)
    rw [hl, e]; rfl

set_option maxHeartbeats 16000000 in
theorem rParsePeriod_v (s : ByteArray) (w : World) : Calls Tryd.prog 46 #[.string s] w (ParsePerPost s w) := by
  by_cases h7 : s.size = 7
  · have HV := Lib.hid (rParseDate_v (s ++ (⟨#[45, 48, 49]⟩ : ByteArray)))
    go_enter Tryd.func46, Tryd.ntmps46
    go_wp2_with fail
    refine (HV.out _).mono ?_; rintro e w1 ⟨y, m, d, x, rfl, hd, b1⟩
    have B1 := keepC b1 (below_new w1 (.cells #[.int .i64 y, .int .i64 m, .int .i64 d] 23))
    rcases per_of_day h7 hd with ⟨rfl, k, r, hk, hr, rfl, rfl, hs⟩ | ⟨rfl, hp⟩
    · have HP : Hid (∀ w', Below w.heap.size w w' → ∀ p : Int, p = 12 * (k : Int) + (r : Int) → ParsePerPost s w (.returned (.tuple #[.int .i64 p, .int .i64 0])) w') := fun w' b p hp => ⟨p, 0, rfl, .inl ⟨k, r, hk, hr, hs, hp, rfl⟩, b⟩
      clear hs hd
      go_wp2_with fail
      go_ret2
      exact HP.out _ B1 _ (by omega)
    · have HP : Hid (∀ w', Below w.heap.size w w' → ParsePerPost s w (.returned (.tuple #[.int .i64 0, .int .i64 54])) w') := fun w' b => ⟨0, 54, rfl, hp, b⟩
      clear hp hd
      go_wp2_with fail
      go_ret2
      exact HP.out _ B1
  · have HP : Hid (ParsePerPost s w (.returned (.tuple #[.int .i64 0, .int .i64 54])) w) := ⟨0, 54, rfl, .inr ⟨fun k r _ _ e => h7 (by rw [e]; rfl), rfl, rfl⟩, Below.refl _ _⟩
    have hd : ((s.size : Int) == 7) = false := beq_eq_false_iff_ne.2 (by omega)
    have hd2 : ((s.size : Int) != 7) = true := by rw [bne, hd]; rfl
    go_enter Tryd.func46, Tryd.ntmps46
    go_wp2_with fail
    go_ret2
    exact HP.out
end Go.Proofs.YtffnmejabphabaaDoor
