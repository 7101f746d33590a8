import Derived.Test.YtffnmejabphabaaDoorCal8
/- CalendarWeeks: the walk. -/
namespace Go.Proofs.YtffnmejabphabaaDoor
open Go.RowKit Go.Sort

set_option maxHeartbeats 8000000 in
set_option maxRecDepth 100000 in
theorem CalendarWeeks_any (z at' : Int) (w : World) (htab : Tab w) :
    Calls Tryd.prog 7 #[.int .i64 z, .int .i64 at'] w fun e w' => e = .returned (.bool true) ∧ Below w.heap.size w w' := by
  go_enter Tryd.func7, Tryd.ntmps7
  go_wp2_with fail
  refine (Fold_v z 5999 (by omega) (by omega) _ 5999 rfl).mono ?_; rintro e w' ⟨n, rfl, hn, rfl⟩
  have hb := fst_bd n
  have hl := fst_lt n
  obtain ⟨F, hF⟩ : ∃ F, F = fst n := ⟨_, rfl⟩
  obtain ⟨L, hL⟩ : ∃ L, L = fst (n + 1) - 1 := ⟨_, rfl⟩
  have c1 := FirstDay_n (n : Int) n rfl (by omega)
  have c2 := LastDay_n (n : Int) n rfl (by omega)
  have c3 := FirstDay_n ((n : Int) + 1) (n + 1) (by omega) (by omega)
  rw [← hF] at c1 hb hl
  rw [← hL] at c2
  rw [show fst (n + 1) = L + 1 by omega] at c3 hl
  have hF1 : F + 27 ≤ L := by omega
  have hF2 : L ≤ F + 30 := by omega
  have t1 : decide (L < F + 27) = false := by simp; omega
  have t2 : decide (F + 30 < L) = false := by simp; omega
  have hL2 : L ≤ 200000 := by omega
  have hp : ∀ t : Nat, t < (L - F + 1).toNat → Per n (F + (t : Int)) := fun t ht => ⟨by omega, by rw [show fst (n + 1) = L + 1 by omega]; omega⟩
  have hsum : L - F + 1 = ((L - F + 1).toNat : Int) := by omega
  have HS := Lib.hid hsum
  have HP := Lib.hid hp
  have C1 := Lib.hid c1
  have C2 := Lib.hid c2
  have C3 := Lib.hid c3
  have F0 : 0 ≤ F := hb.1
  clear hF hL hb hl hp hsum c1 c2 c3
  obtain ⟨k, r, hr, hkr⟩ : ∃ k r : Nat, r < 12 ∧ n = 12 * k + r := ⟨n / 12, n % 12, by omega, by omega⟩
  have hk : k < 500 := by omega
  have C4 := Lib.hid (December_in (n : Int) k r (by omega) hr hk)
  have ht := Lib.hid htab
  have HKR := Lib.hid hkr
  clear htab hkr
  go_wp2_with fail
  refine (C1.out _).mono ?_; rintro e w1 ⟨rfl, g1⟩
  go_wp2_with fail
  refine (C2.out _).mono ?_; rintro e w2 ⟨rfl, g2⟩
  go_wp2_with fail
  refine (C3.out _).mono ?_; rintro e w3 ⟨rfl, g3⟩
  have G := (g1.trans g2).trans g3
  go_wp2_with fail
  refine (Fold_v at' (L - F + 1).toNat (by omega) (by omega) _ _ HS.out).mono ?_; rintro e w' ⟨t, rfl, htt, rfl⟩
  have C5 := Lib.hid (PeriodOf_in (F + (t : Int)) n (HP.out t htt) (by omega))
  have hte : (t : Int) ≤ 31 := by omega
  by_cases hk0 : k = 0
  · have hd : decI k = -1 := by rw [hk0]; rfl
    rw [hd] at C4
    have s1 : decide ((n : Int) < 12) = true := by have := HKR.out; simp; omega
    clear hd hk0
    go_wp2_with fail
    refine (C4.out _).mono ?_; rintro e w' ⟨rfl, rfl⟩
    go_wp2_with fail
    refine (C5.out _).mono ?_; rintro e w4 ⟨rfl, b4⟩
    have B := keepC G.below b4
    go_wp2_with fail
    refine (awake_v _ (ht.out.below B)).mono ?_; rintro e w5 ⟨rfl, b5⟩
    have BE := keepC B b5
    go_wp2_with fail
    go_ret
    exact ⟨rfl, BE⟩
  · obtain ⟨D, hD⟩ : ∃ D, D = decI k := ⟨_, rfl⟩
    rw [← hD] at C4
    have C6 := Lib.hid (Month_in D (k - 1) 11 (by rw [hD]; unfold decI; omega) (by omega) (by omega))
    have s1 : decide ((n : Int) < 12) = false := by have := HKR.out; simp; omega
    have s2 : decide (12 ≤ (n : Int)) = true := by have := HKR.out; simp; omega
    have hD2 : D = 12 * (k : Int) - 1 := hD
    have s3 : decide (1 ≤ (n : Int) - D) = true := by have := HKR.out; simp; omega
    have s4 : decide ((n : Int) - D ≤ 12) = true := by have := HKR.out; simp; omega
    have s5 : 0 ≤ D := by omega
    have s6 : D ≤ 6000 := by omega
    clear hD hD2 hk0
    go_wp2_with fail
    refine (C4.out _).mono ?_; rintro e w' ⟨rfl, rfl⟩
    go_wp2_with fail
    refine (C6.out _).mono ?_; rintro e w' ⟨rfl, rfl⟩
    go_wp2_with fail
    refine (C5.out _).mono ?_; rintro e w4 ⟨rfl, b4⟩
    have B := keepC G.below b4
    go_wp2_with fail
    refine (awake_v _ (ht.out.below B)).mono ?_; rintro e w5 ⟨rfl, b5⟩
    have BE := keepC B b5
    go_wp2_with fail
    go_ret
    exact ⟨rfl, BE⟩
end Go.Proofs.YtffnmejabphabaaDoor
