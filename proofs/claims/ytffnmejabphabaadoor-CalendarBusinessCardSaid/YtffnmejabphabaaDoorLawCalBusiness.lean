import Derived.Test.YtffnmejabphabaaDoorCal11
/- CalendarBusiness: the walk. -/
namespace Go.Proofs.YtffnmejabphabaaDoor
open Go.RowKit Go.Sort

theorem bus_nil (n : Int) (h0 : 0 ≤ n) (h1 : n ≤ 182620) : bus [] n = decide (n % 7 < 5) := by
  by_cases h : n % 7 < 5
  · rw [bus_in h0 h1 h, decide_eq_true h]; rfl
  · rw [bus_end (by omega), decide_eq_false h]
theorem RdI.nil (w : World) : RdI w none 0 [] := ⟨by simp, by omega, by simp, .inl ⟨rfl, fun _ => rfl⟩⟩

set_option maxHeartbeats 8000000 in
set_option maxRecDepth 100000 in
theorem CalendarBusiness_any (d : Int) (ao to : Option Addr) (ca ct : Nat) (zs ts : List Int) (w : World) (h : RdI w ao ca zs) (ht : RdI w to ct ts) (htab : Tab w) :
    Calls Tryd.prog 8 #[.int .i64 d, .slice ao zs.length ca, .slice to ts.length ct] w fun e w' => e = .returned (.bool true) ∧ Below w.heap.size w w' := by
  obtain ⟨us, hu⟩ : ∃ us, us = zs.take 500 := ⟨_, rfl⟩
  have hr : RdI w ao ca us := by rw [hu]; exact h.take 500
  have hlen : (min ((zs.length : Nat) : Int) 500).toNat = us.length := by rw [hu, List.length_take]; omega
  have hm := h.2.1
  have hl := h.1
  have HL := Lib.hid hlen
  have HR := Lib.hid hr
  have HT := Lib.hid ht
  have HTab := Lib.hid htab
  obtain ⟨l, hll⟩ : ∃ l, l = zs.length := ⟨_, rfl⟩
  rw [← hll] at hl HL ⊢
  clear h ht htab hu hr hlen hll
  go_enter Tryd.func8, Tryd.ntmps8
  go_wp2_with fail
  refine (Fold_v d 182621 (by omega) (by omega) _ 182621 rfl).mono ?_; rintro e w' ⟨n, rfl, hn, rfl⟩
  go_wp2_with fail
  refine (law_holidays to ct ts (n : Int) w HT.out (by omega) (by omega)).mono ?_; rintro e w1 ⟨ho, hc, hs, rfl, hrh, _, b1⟩
  have HRU := Lib.hid (HR.out.below b1)
  have HRH := Lib.hid hrh
  have HN := Lib.hid (bus_nil (n : Int) (by omega) (by omega))
  rw [HL.out]
  clear hrh
  obtain ⟨q1, hq1⟩ : ∃ q, bus us d = q := ⟨_, rfl⟩
  obtain ⟨q2, hq2⟩ : ∃ q, bus hs (n : Int) = q := ⟨_, rfl⟩
  obtain ⟨q3, hq3⟩ : ∃ q, decide ((n : Int) % 7 < 5) = q := ⟨_, rfl⟩
  have Q1 := Lib.hid hq1
  have Q2 := Lib.hid hq2
  rw [hq3] at HN
  clear hq1 hq2
  have hn0 : 0 ≤ (n : Int) := by omega
  go_wp2_with fail
  refine (Business_v d ao ca us _ HRU.out).mono ?_; rintro e w' ⟨rfl, rfl⟩
  rw [Q1.out]
  go_wp2_with fail
  refine (rBusiness_v d ao ca us _ HRU.out).mono ?_; rintro e w' ⟨rfl, rfl⟩
  rw [Q1.out]
  go_wp2_with fail
  refine (Business_v (n : Int) ho hc hs _ HRH.out).mono ?_; rintro e w' ⟨rfl, rfl⟩
  rw [Q2.out]
  go_wp2_with fail
  refine (rBusiness_v (n : Int) ho hc hs _ HRH.out).mono ?_; rintro e w' ⟨rfl, rfl⟩
  rw [Q2.out]
  go_wp2_with fail
  refine (Business_v (n : Int) none 0 [] _ (RdI.nil _)).mono ?_; rintro e w' ⟨rfl, rfl⟩
  rw [HN.out]
  go_wp2_with fail
  refine (awake_v _ (HTab.out.below b1)).mono ?_; rintro e w5 ⟨rfl, b5⟩
  have BE := keepC b1 b5
  go_wp2_with fail
  go_ret
  exact ⟨rfl, BE⟩
end Go.Proofs.YtffnmejabphabaaDoor
